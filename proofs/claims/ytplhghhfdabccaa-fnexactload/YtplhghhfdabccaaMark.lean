import Derived.Test.YtplhghhfdabccaaFam
namespace Go.Proofs.Ytplhghhfdabccaa
open Go.RowKit

/- MARKS WRITTEN INTO ROWS OF THE CALL's OWN, AND READ AGAIN. -/
def markL (k : Int) (n : Nat) : List Int := (List.range n).map fun i : Nat => k + (i : Int)
theorem markL_len (k : Int) (n : Nat) : (markL k n).length = n := by simp [markL]
theorem markL_succ (k : Int) (n : Nat) : markL k (n + 1) = markL k n ++ [k + (n : Int)] := by simp [markL, List.range_succ]
def mixL (k : Int) (xs : List Int) (j : Nat) : List Int := markL k j ++ xs.drop j
theorem mixL_len (k : Int) (xs : List Int) (j : Nat) (h : j ≤ xs.length) : (mixL k xs j).length = xs.length := by simp [mixL, markL_len]; omega
theorem mixL_set (k : Int) (xs : List Int) (j : Nat) (h : j < xs.length) : ((mixL k xs j).map intV).set j (.int .i64 (k + (j : Int))) = (mixL k xs (j + 1)).map intV := by
  unfold mixL
  rw [List.drop_eq_getElem_cons h, markL_succ]
  simp only [List.map_append, List.map_cons]
  rw [List.set_append_right _ _ (by simp [markL_len])]
  simp [markL_len, intV]

set_option maxRecDepth 100000 in
set_option maxHeartbeats 400000 in
theorem markIntS_ok {B : Nat} (v : Value) (xs : List Int) (k : Int) (w : World) (h : Owns B w v xs) (h0 : 0 ≤ k) (h1 : k ≤ 100000000) (hl : xs.length ≤ 1048576) :
    Calls Try.prog 83 #[v, .int .i64 k] w fun e w' => e = .returned (.int .i64 (k + xs.length)) ∧ Owns B w' v (markL k xs.length) ∧ (∀ b, v.ownBlock ≠ some b → w'.heap[b]? = w.heap[b]?) ∧ w.heap.size ≤ w'.heap.size ∧ Below B w w' := by
  rcases h.2 with ⟨rfl, hn0⟩ | ⟨g, cap, cur, rfl, hg, r⟩
  · have : xs = [] := List.eq_nil_of_length_eq_zero hn0
    subst this
    go_enter Try.func83, Try.ntmps83
    go_wp2
    go_loop [1, 5] (fun kk i => kk = .int .i64 k ∧ i = .int .i64 0) (fun _ _ => 0)
    case atStart => exact ⟨rfl, rfl⟩
    case round =>
      obtain ⟨rfl, rfl⟩ := hrel
      go_wp2
      go_ret
      exact ⟨ret_int (by simp), h, fun _ _ => rfl, Nat.le_refl _, Below.refl _ _⟩
  · clear r
    have hF : Owns B w (.slice (some ⟨g, 0, none⟩) xs.length cap) (mixL k xs 0) := by simpa [mixL, markL] using h
    go_enter Try.func83, Try.ntmps83
    go_wp2
    go_loopw [1, 5] (fun kk i wr => ∃ j : Nat, j ≤ xs.length ∧ i = .int .i64 j ∧ kk = .int .i64 (k + j) ∧ wr.ownsRow B 3 1 (.slice (some ⟨g, 0, none⟩) xs.length cap) xs.length ((mixL k xs j).map intV) ∧ Hid (∀ b, b ≠ g → wr.heap[b]? = w.heap[b]?) ∧ w.heap.size ≤ wr.heap.size ∧ Below B w wr)
      (fun _ i _ => xs.length - (intOf i).toNat)
    case atStart => exact ⟨0, Nat.zero_le _, rfl, by simp, by have := hF; unfold Owns at this; rw [mixL_len k xs 0 (Nat.zero_le _)] at this; exact this, fun _ _ => rfl, Nat.le_refl _, Below.refl _ _⟩
    case round =>
      obtain ⟨j, hj, rfl, rfl, hown, HB, hsz, hb⟩ := hrel
      by_cases hlt : j < xs.length
      · obtain ⟨u0, d0⟩ := own_cell hown (j := j) (by omega)
        have f0 := hown.frozenAt j
        have HX : Hid _ := mixL_set k xs j hlt
        go_wp2
        go_roundw
        case rel => exact ⟨j + 1, by omega, by go_num, by go_num, by have := (hown.stored j (.int .i64 (k + (j : Int)))).1; rw [HX.out] at this; exact this, fun b hbg => by rw [heap_setCell_other _ _ _ _ (by simpa using hbg)]; exact HB.out b hbg, by simpa [World.setCell] using hsz, hb.setCell (by exact hg) _⟩
        case measure => simp [intOf]; omega
      · have hjj : j = xs.length := by omega
        have HO : Hid (wr.ownsRow B 3 1 (.slice (some ⟨g, 0, none⟩) xs.length cap) xs.length ((markL k xs.length).map intV)) := by
          have e : mixL k xs j = markL k xs.length := by rw [hjj]; simp [mixL]
          rw [← e]; exact hown
        have HK : Hid (k + (j : Int) = k + xs.length) := by show _ = _; rw [hjj]
        clear hjj
        go_wp2
        go_ret
        refine ⟨ret_int HK.out, ?_, fun b hbn => HB.out b (fun e => hbn (by rw [e]; rfl)), hsz, hb⟩
        unfold Owns
        rw [markL_len]
        exact HO.out

theorem markL_get (k : Int) (n j : Nat) (h : j < n) : (markL k n).getD j 0 = k + (j : Int) := by
  unfold markL; rw [range_map_get _ _ _ _ h]
set_option maxRecDepth 100000 in
set_option maxHeartbeats 400000 in
theorem heldIntS_ok {lo : Nat} (v : Value) (n : Nat) (k : Int) (w : World) (hs : IntsAt lo w v (markL k n)) (h0 : 0 ≤ k) (h1 : k ≤ 100000000) (hl : n ≤ 1048576) :
    Calls Try.prog 84 #[v, .int .i64 k] w fun e w' => e = .returned (.int .i64 (k + n)) ∧ w' = w := by
  obtain ⟨ao, cap, rfl, hm, hc⟩ := hs
  rw [markL_len] at *
  go_enter Try.func84, Try.ntmps84
  go_wp2
  go_loop [1, 5] (fun kk i => ∃ j : Nat, j ≤ n ∧ i = .int .i64 j ∧ kk = .int .i64 (k + j)) (fun _ i => n - (intOf i).toNat)
  case atStart => exact ⟨0, Nat.zero_le _, rfl, by simp⟩
  case round =>
    obtain ⟨j, hj, rfl, rfl⟩ := hrel
    by_cases hlt : j < n
    · obtain ⟨b, o, x, rfl, Hn, hbl, c0⟩ := hc.elem (Below.refl _ _) (k := j) (by rw [markL_len]; exact hlt)
      have hx : x = k + (j : Int) := Hn.out.symm.trans (markL_get k n j hlt)
      subst hx
      have hne : ((k + (j : Int)) != (k + (j : Int))) = false := by simp
      go_wp2
      go_round
      case rel => exact ⟨j + 1, by omega, by go_num, by go_num⟩
      case measure => simp [intOf]; omega
    · have HK : Hid (k + (j : Int) = k + n) := by show _ = _; omega
      go_wp2
      go_ret
      exact ⟨ret_int HK.out, rfl⟩
end Go.Proofs.Ytplhghhfdabccaa
