import Derived.Test.YtplhghhfdabccaaDoorPackM
import Derived.Test.YtplhghhfdabccaaDoorInts
namespace Go.Proofs.YtplhghhfdabccaaDoor
open Go.RowKit
attribute [local go_sem ↓] Go.wp_at_zero Go.wp_at_succ

theorem count_take (l : List Int) (x : Int) (k : Nat) (hk : k < l.length) (y : Int) (hy : l.getD k 0 = y) : (l.take (k + 1)).count x = (l.take k).count x + if x = y then 1 else 0 := by
  have e : l[k] = y := by rw [← hy]; simp [List.getD, hk]
  rw [List.take_succ_eq_append_getElem hk, e, List.count_append, List.count_singleton]
  congr 1
  by_cases h : x = y
  · rw [if_pos h, h]; simp
  · rw [if_neg h]
    have : (y == x) = false := by simp; exact fun e => h e.symm
    simp [this]
/-- The best of the first k entries, by how often they stand in the whole row. -/
def BestTo (row : List Int) (k : Nat) (b t : Int) : Prop :=
  (k = 0 ∧ b = -1 ∧ t = 0) ∨ (b ∈ row.take k ∧ t = cntL row b ∧ ∀ y ∈ row.take k, cntL row y < cntL row b ∨ (cntL row y = cntL row b ∧ b ≤ y))
theorem best_step {row : List Int} {k : Nat} (hk : k < row.length) {b t x : Int} (hx : row.getD k 0 = x) (h : BestTo row k b t) :
    (t < cntL row x → BestTo row (k + 1) x (cntL row x)) ∧ ((cntL row x : Int) = t → x < b → BestTo row (k + 1) x (cntL row x)) ∧ (¬t < cntL row x → ¬((cntL row x : Int) = t ∧ x < b) → BestTo row (k + 1) b t) := by
  have e : row[k] = x := by rw [← hx]; simp [List.getD, hk]
  have hmem : x ∈ row := by rw [← e]; exact List.getElem_mem hk
  have hpos : 0 < cntL row x := List.count_pos_iff.2 hmem
  have htk : row.take (k + 1) = row.take k ++ [x] := by rw [List.take_succ_eq_append_getElem hk, e]
  have hin : x ∈ row.take (k + 1) := by rw [htk]; simp
  have up : (∀ y ∈ row.take k, cntL row y < cntL row x ∨ (cntL row y = cntL row x ∧ x ≤ y)) → BestTo row (k + 1) x (cntL row x) := fun hy => .inr ⟨hin, rfl, fun y hy2 => by
    rw [htk] at hy2
    rcases List.mem_append.1 hy2 with h1 | h1
    · exact hy y h1
    · rw [List.mem_singleton.1 h1]; exact .inr ⟨rfl, Int.le_refl _⟩⟩
  rcases h with ⟨h0, hb, ht⟩ | ⟨hb, ht, hall⟩
  · have hnil : row.take k = [] := by rw [h0]; rfl
    refine ⟨fun _ => up (by rw [hnil]; simp), fun _ _ => up (by rw [hnil]; simp), fun h1 _ => absurd (by omega) h1⟩
  · refine ⟨fun h1 => up fun y hy => ?_, fun h1 h2 => up fun y hy => ?_, fun h1 h2 => .inr ⟨?_, ht, fun y hy => ?_⟩⟩
    · have := hall y hy; omega
    · have := hall y hy; omega
    · rw [htk]; exact List.mem_append_left _ hb
    · rw [htk] at hy
      rcases List.mem_append.1 hy with h3 | h3
      · exact hall y h3
      · rw [List.mem_singleton.1 h3]; omega
theorem best_end {row : List Int} {b t : Int} (h0 : 0 < row.length) (h : BestTo row row.length b t) : bestF row = b := by
  rcases h with ⟨h1, _⟩ | ⟨hb, _, hall⟩
  · omega
  · rw [List.take_length] at hb hall
    exact bestF_eq (isBest_iff.2 ⟨hb, hall⟩)

set_option maxRecDepth 100000 in
set_option maxHeartbeats 1000000 in
theorem l3Default_ok {lo : Nat} (v : Value) (row : List Int) (w : World) (hs : IntsAt lo w v row) (h0 : 0 < row.length) (h1 : row.length ≤ 256) :
    Calls Tryd.prog 15 #[v] w fun e w' => e = .returned (.int .i64 (bestF row)) ∧ w' = w := by
  obtain ⟨ao, cap, rfl, hm, hc⟩ := hs
  obtain ⟨b, o, rfl, _, hbl, hcell⟩ := hc h0
  have Hc : Hid (∀ i, i < row.length → w.cell? ⟨b, o + i, none⟩ = some (.int .i64 (row.getD i 0))) := hcell
  clear hcell hc
  go_enter Tryd.func15, Tryd.ntmps15
  go_wp2
  go_loop [3, 4, 12] (fun bv tv i => ∃ (k : Nat) (bb tt : Int), k ≤ row.length ∧ i = .int .i64 k ∧ bv = .int .i64 bb ∧ tv = .int .i64 tt ∧ Hid (BestTo row k bb tt) ∧ 0 ≤ tt ∧ tt ≤ 256)
    (fun _ _ i => row.length - (intOf i).toNat)
  case atStart => exact ⟨0, -1, 0, Nat.zero_le _, rfl, rfl, rfl, .inl ⟨rfl, rfl, rfl⟩, by omega, by omega⟩
  case round =>
    obtain ⟨k, bb, tt, hk, rfl, rfl, rfl, HB, ht0, ht1⟩ := hrel
    by_cases hlt : k < row.length
    · have c0 : w.cell? ⟨b, o + k, none⟩ = some (.int .i64 (row.getD k 0)) := Hc.out k hlt
      have HS : Hid _ := best_step hlt rfl HB.out
      generalize row.getD k 0 = x at *
      go_wp2
      go_loop [7, 18] (fun tv i => ∃ j : Nat, j ≤ row.length ∧ i = .int .i64 j ∧ tv = .int .i64 (((row.take j).count x : Nat) : Int) ∧ (row.take j).count x ≤ j)
        (fun _ i => row.length - (intOf i).toNat)
      case atStart => exact ⟨0, Nat.zero_le _, rfl, rfl, by simp⟩
      case round =>
        obtain ⟨j, hj, rfl, rfl, hjc⟩ := hrel
        by_cases hlt2 : j < row.length
        · have d0 : w.cell? ⟨b, o + j, none⟩ = some (.int .i64 (row.getD j 0)) := Hc.out j hlt2
          have HC : Hid _ := count_take row x j hlt2 _ rfl
          generalize row.getD j 0 = y at *
          by_cases hxy : x = y
          · rw [if_pos hxy] at HC
            have hb1 : (x == y) = true := by simp [hxy]
            clear hxy
            go_wp2
            go_round
            case rel => exact ⟨j + 1, by omega, by go_num, by rw [HC.out]; go_num, by rw [HC.out]; omega⟩
            case measure => simp [intOf]; omega
          · rw [if_neg hxy] at HC
            have hb1 : (x == y) = false := by simp [hxy]
            clear hxy
            go_wp2
            go_round
            case rel => exact ⟨j + 1, by omega, by go_num, by rw [HC.out]; go_num, by rw [HC.out]; omega⟩
            case measure => simp [intOf]; omega
        · have hjj : j = row.length := by omega
          have HX : Hid ((row.take j).count x = cntL row x) := by show _ = _; rw [hjj, List.take_length]; rfl
          have hle : cntL row x ≤ 256 := by rw [← HX.out]; omega
          rw [HX.out]
          clear hjj hjc HX
          obtain ⟨s1, s2, s3⟩ := HS.out
          have S1 : Hid _ := s1
          have S2 : Hid _ := s2
          have S3 : Hid _ := s3
          clear s1 s2 s3 HS
          generalize cntL row x = ct at *
          by_cases g1 : tt < (ct : Int)
          · go_wp2
            go_round
            case rel => exact ⟨k + 1, x, ct, by omega, by go_num, rfl, rfl, S1.out g1, by omega, by omega⟩
            case measure => simp [intOf]; omega
          · by_cases g2 : (ct : Int) = tt
            · by_cases g3 : x < bb
              · have hR := S2.out g2 g3
                have HR : Hid (BestTo row (k + 1) x (ct : Int)) := hR
                have hb2 : ((ct : Int) == tt) = true := by simp [g2]
                clear hR g2
                go_wp2
                go_round
                case rel => exact ⟨k + 1, x, ct, by omega, by go_num, rfl, rfl, HR.out, by omega, by omega⟩
                case measure => simp [intOf]; omega
              · have HR : Hid (BestTo row (k + 1) bb tt) := S3.out (by omega) (fun h => g3 h.2)
                have hb2 : ((ct : Int) == tt) = true := by simp [g2]
                clear g2
                go_wp2
                go_round
                case rel => exact ⟨k + 1, bb, tt, by omega, by go_num, rfl, rfl, HR.out, by omega, by omega⟩
                case measure => simp [intOf]; omega
            · have HR : Hid (BestTo row (k + 1) bb tt) := S3.out (by omega) (fun h => g2 h.1)
              have hb2 : ((ct : Int) == tt) = false := by simp [g2]
              clear g2
              go_wp2
              go_round
              case rel => exact ⟨k + 1, bb, tt, by omega, by go_num, rfl, rfl, HR.out, by omega, by omega⟩
              case measure => simp [intOf]; omega
    · have hkk : k = row.length := by omega
      rw [hkk] at HB
      have HR : Hid (bestF row = bb) := best_end h0 HB.out
      clear hkk
      go_wp2
      go_ret
      exact ⟨ret_int HR.out.symm, rfl⟩

set_option maxRecDepth 100000 in
set_option maxHeartbeats 400000 in
theorem l3Free_ok {lo : Nat} (v : Value) (chk : List Int) (k : Nat) (ck : Int) (w : World) (hs : IntsAt lo w v chk) (hck : ck = k) :
    Calls Tryd.prog 16 #[v, .int .i64 ck] w fun e w' => e = .returned (.bool (freeAt chk k)) ∧ w' = w := by
  subst hck
  obtain ⟨ao, cap, rfl, hm, hc⟩ := hs
  by_cases h : chk.length ≤ k
  · have H : Hid (freeAt chk k = true) := by show _ = _; simp [freeAt, h]
    have h' : (chk.length : Int) ≤ (k : Int) := by omega
    clear h hc
    go_enter Tryd.func16, Tryd.ntmps16
    go_wp2
    go_ret
    exact ⟨ret_bool H.out.symm, rfl⟩
  · obtain ⟨b, o, x, rfl, Hn, hbl, c0⟩ := hc.elem (Below.refl _ _) (k := k) (by omega)
    have H : Hid (freeAt chk k = (x == -1)) := by show _ = _; unfold freeAt; rw [Hn.out]; simp [h]
    have h' : ¬(chk.length : Int) ≤ (k : Int) := by omega
    have h2 : (k : Int) < (chk.length : Int) := by omega
    clear h hc Hn
    go_enter Tryd.func16, Tryd.ntmps16
    go_wp2
    go_ret
    exact ⟨ret_bool H.out.symm, rfl⟩
end Go.Proofs.YtplhghhfdabccaaDoor
