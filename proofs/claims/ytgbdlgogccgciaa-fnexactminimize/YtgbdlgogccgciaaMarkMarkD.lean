import Derived.Test.YtgbdlgogccgciaaFamMinI
import Derived.Test.YtgbdlgogccgciaaMinQ
namespace Go.Proofs.Ytgbdlgogccgciaa
open Go.RowKit

/- MARKS WRITTEN INTO ROWS OF THE CALL's OWN, AND READ AGAIN. -/
def markL (k : Int) (n : Nat) : List Int := (List.range n).map fun i : Nat => k + (i : Int)
theorem markL_len (k : Int) (n : Nat) : (markL k n).length = n := by simp [markL]
theorem markL_succ (k : Int) (n : Nat) : markL k (n + 1) = markL k n ++ [k + (n : Int)] := by simp [markL, List.range_succ]
def mixL (k : Int) (xs : List Int) (j : Nat) : List Int := markL k j ++ xs.drop j
theorem mixL_len (k : Int) (xs : List Int) (j : Nat) (h : j ≤ xs.length) : (mixL k xs j).length = xs.length := by simp [mixL, markL_len]; omega
theorem mixL_set (k : Int) (xs : List Int) (j : Nat) (h : j < xs.length) : ((mixL k xs j).map intV).set j (.int .i64 (k + (j : Int))) = (mixL k xs (j + 1)).map intV := by
  unfold mixL
  rw [List.drop_eq_getElem_cons h, markL_succ]
  simp only [List.map_append, List.map_cons]
  rw [List.set_append_right _ _ (by simp [markL_len])]
  simp [markL_len, intV]

set_option maxRecDepth 100000 in
set_option maxHeartbeats 400000 in
theorem markIntS_ok {B : Nat} (v : Value) (xs : List Int) (k : Int) (w : World) (h : Owns B w v xs) (h0 : 0 ≤ k) (h1 : k ≤ 100000000) (hl : xs.length ≤ 1048576) :
    Calls Try.prog 21 #[v, .int .i64 k] w fun e w' => e = .returned (.int .i64 (k + xs.length)) ∧ Owns B w' v (markL k xs.length) ∧ (∀ b, v.ownBlock ≠ some b → w'.heap[b]? = w.heap[b]?) ∧ w.heap.size ≤ w'.heap.size ∧ Below B w w' := by
  rcases h.2 with ⟨rfl, hn0⟩ | ⟨g, cap, cur, rfl, hg, r⟩
  · have : xs = [] := List.eq_nil_of_length_eq_zero hn0
    subst this
    go_enter Try.func21, Try.ntmps21
    go_wp2
    go_loop [1, 5] (fun kk i => kk = .int .i64 k ∧ i = .int .i64 0) (fun _ _ => 0)
    case atStart => exact ⟨rfl, rfl⟩
    case round =>
      obtain ⟨rfl, rfl⟩ := hrel
      go_wp2
      go_ret
      exact ⟨ret_int (by simp), h, fun _ _ => rfl, Nat.le_refl _, Below.refl _ _⟩
  · clear r
    have hF : Owns B w (.slice (some ⟨g, 0, none⟩) xs.length cap) (mixL k xs 0) := by simpa [mixL, markL] using h
    go_enter Try.func21, Try.ntmps21
    go_wp2
    go_loopw [1, 5] (fun kk i wr => ∃ j : Nat, j ≤ xs.length ∧ i = .int .i64 j ∧ kk = .int .i64 (k + j) ∧ wr.ownsRow B 3 1 (.slice (some ⟨g, 0, none⟩) xs.length cap) xs.length ((mixL k xs j).map intV) ∧ Hid (∀ b, b ≠ g → wr.heap[b]? = w.heap[b]?) ∧ w.heap.size ≤ wr.heap.size ∧ Below B w wr)
      (fun _ i _ => xs.length - (intOf i).toNat)
    case atStart => exact ⟨0, Nat.zero_le _, rfl, by simp, by have := hF; unfold Owns at this; rw [mixL_len k xs 0 (Nat.zero_le _)] at this; exact this, fun _ _ => rfl, Nat.le_refl _, Below.refl _ _⟩
    case round =>
      obtain ⟨j, hj, rfl, rfl, hown, HB, hsz, hb⟩ := hrel
      by_cases hlt : j < xs.length
      · obtain ⟨u0, d0⟩ := own_cell hown (j := j) (by omega)
        have f0 := hown.frozenAt j
        have HX : Hid _ := mixL_set k xs j hlt
        go_wp2
        go_roundw
        case rel => exact ⟨j + 1, by omega, by go_num, by go_num, by have := (hown.stored j (.int .i64 (k + (j : Int)))).1; rw [HX.out] at this; exact this, fun b hbg => by rw [heap_setCell_other _ _ _ _ (by simpa using hbg)]; exact HB.out b hbg, by simpa [World.setCell] using hsz, hb.setCell (by exact hg) _⟩
        case measure => simp [intOf]; omega
      · have hjj : j = xs.length := by omega
        have HO : Hid (wr.ownsRow B 3 1 (.slice (some ⟨g, 0, none⟩) xs.length cap) xs.length ((markL k xs.length).map intV)) := by
          have e : mixL k xs j = markL k xs.length := by rw [hjj]; simp [mixL]
          rw [← e]; exact hown
        have HK : Hid (k + (j : Int) = k + xs.length) := by show _ = _; rw [hjj]
        clear hjj
        go_wp2
        go_ret
        refine ⟨ret_int HK.out, ?_, fun b hbn => HB.out b (fun e => hbn (by rw [e]; rfl)), hsz, hb⟩
        unfold Owns
        rw [markL_len]
        exact HO.out

theorem markL_get (k : Int) (n j : Nat) (h : j < n) : (markL k n).getD j 0 = k + (j : Int) := by
  unfold markL; rw [range_map_get _ _ _ _ h]
set_option maxRecDepth 100000 in
set_option maxHeartbeats 400000 in
theorem heldIntS_ok {lo : Nat} (v : Value) (n : Nat) (k : Int) (w : World) (hs : IntsAt lo w v (markL k n)) (h0 : 0 ≤ k) (h1 : k ≤ 100000000) (hl : n ≤ 1048576) :
    Calls Try.prog 22 #[v, .int .i64 k] w fun e w' => e = .returned (.int .i64 (k + n)) ∧ w' = w := by
  obtain ⟨ao, cap, rfl, hm, hc⟩ := hs
  rw [markL_len] at *
  go_enter Try.func22, Try.ntmps22
  go_wp2
  go_loop [1, 5] (fun kk i => ∃ j : Nat, j ≤ n ∧ i = .int .i64 j ∧ kk = .int .i64 (k + j)) (fun _ i => n - (intOf i).toNat)
  case atStart => exact ⟨0, Nat.zero_le _, rfl, by simp⟩
  case round =>
    obtain ⟨j, hj, rfl, rfl⟩ := hrel
    by_cases hlt : j < n
    · obtain ⟨b, o, x, rfl, Hn, hbl, c0⟩ := hc.elem (Below.refl _ _) (k := j) (by rw [markL_len]; exact hlt)
      have hx : x = k + (j : Int) := Hn.out.symm.trans (markL_get k n j hlt)
      subst hx
      have hne : ((k + (j : Int)) != (k + (j : Int))) = false := by simp
      go_wp2
      go_round
      case rel => exact ⟨j + 1, by omega, by go_num, by go_num⟩
      case measure => simp [intOf]; omega
    · have HK : Hid (k + (j : Int) = k + n) := by show _ = _; omega
      go_wp2
      go_ret
      exact ⟨ret_int HK.out, rfl⟩
end Go.Proofs.Ytgbdlgogccgciaa
namespace Go.Proofs.Ytgbdlgogccgciaa
open Go.RowKit

/- MARKS IN AN AUTOMATON WHOSE ROWS ARE A FAMILY. -/
theorem Fam.lowerD {gt gt' n : Nat} {W : World} {v : Nat → Value} {l : Nat → List Int} (h : Fam gt n W v l) (hg : gt' ≤ gt) : Fam gt' n W v l :=
  ⟨fun i hi => ⟨(h.own i hi).1, (h.own i hi).2.elim .inl fun ⟨g, cap, cur, hv, hb, r⟩ => .inr ⟨g, cap, cur, hv, by omega, r⟩⟩, h.apart⟩
def slD (a : Nat → Option Addr) (l : Nat → List Int) (p : Nat → Nat) : Nat → Value := fun i => .slice (a i) (l i).length (p i)
theorem MinAns.form {w w' : World} {width : Int} {l : Nat → List Int} {e : Ending} (h : MinAns w width l e w') : ∃ (a : Nat → Option Addr) (p : Nat → Nat), e = .returned (.agg (rowD width (slD a l p))) ∧ Fam w.heap.size 4 w' (slD a l p) l ∧ Below w.heap.size w w' := by
  obtain ⟨gt, v, rfl, h1, h2', h3⟩ := h
  have h2 := h2'.lowerD h1
  obtain ⟨F, hF⟩ := Go.Deep.choose_lt (α := Option Addr × Nat) (p := fun i r => v i = .slice r.1 (l i).length r.2) (fun i (hi : i < 4) => owns_formD (h2.own i hi))
  have e : ∀ i, i < 4 → slD (fun i => (F i).1) l (fun i => (F i).2) i = v i := fun i hi => (hF i hi).symm
  refine ⟨fun i => (F i).1, fun i => (F i).2, ?_, ⟨fun i hi => by rw [e i hi]; exact h2.own i hi, fun i j hi hj hne b hb => by rw [e i hi] at hb; rw [e j hj]; exact h2.apart i j hi hj hne b hb⟩, h3⟩
  unfold rowD
  rw [e 0 (by omega), e 1 (by omega), e 2 (by omega), e 3 (by omega)]
def dfaOf (width : Int) (l : Nat → List Int) : DfaD := ⟨l 0, width, l 1, l 2, l 3⟩
theorem Fam.dfa {gt : Nat} {W : World} {v : Nat → Value} {l : Nat → List Int} (width : Int) (h : Fam gt 4 W v l) (hl : ∀ i, i < 4 → (l i).length ≤ 1048576) : DfaAt (gt + 1) W (v 0) (v 1) (v 2) (v 3) (dfaOf width l) := by
  have o : ∀ i, i < 4 → IntsAt (gt + 1) W (v i) (l i) := fun i hi => (h.own i hi).at (by have := hl i hi; omega)
  exact ⟨o 0 (by omega), o 1 (by omega), o 2 (by omega), o 3 (by omega)⟩
theorem Fam.markD {gt n : Nat} {W W' : World} {v : Nat → Value} {l : Nat → List Int} (h : Fam gt n W v l) {i : Nat} (hi : i < n) {l' : List Int} (own : Owns (gt + 1) W' (v i) l') (oth : ∀ b, (v i).ownBlock ≠ some b → W'.heap[b]? = W.heap[b]?) : Fam gt n W' v (updL l i l') := by
  refine ⟨fun j hj => ?_, h.apart⟩
  by_cases e : j = i
  · subst e; rw [updL_same]; exact own
  · rw [updL_ne _ _ e]
    exact owns_keep (h.own j hj) fun b hb => oth b (fun hc => h.apart j i hj hi e b hb hc)
structure MarkSD (w : World) (gt : Nat) (width : Int) (v : Nat → Value) (W : World) (l : Nat → List Int) : Prop where
  fam : Fam gt 4 W v l
  box : W.heap[w.heap.size]? = some (.cells (rowD width v) 26 (0, 0))
  below : Below (gt + 1) w W
  low : ∀ i, i < 4 → ∀ b, (v i).ownBlock = some b → b < w.heap.size
  rest : ∀ b, b < w.heap.size → (∀ i, i < 4 → (v i).ownBlock ≠ some b) → W.heap[b]? = w.heap[b]?
theorem MarkSD.step {w : World} {gt : Nat} {width : Int} {v : Nat → Value} {W W' : World} {l : Nat → List Int} (h : MarkSD w gt width v W l) {i : Nat} (hi : i < 4) {l' : List Int} (own : Owns (gt + 1) W' (v i) l') (oth : ∀ b, (v i).ownBlock ≠ some b → W'.heap[b]? = W.heap[b]?) (hb : Below (gt + 1) W W') : MarkSD w gt width v W' (updL l i l') :=
  ⟨h.fam.markD hi own oth, (oth _ (fun hc => by have := h.low i hi _ hc; omega)).trans h.box, h.below.trans hb, h.low, fun b hlt hn => (oth b (hn i hi)).trans (h.rest b hlt hn)⟩

set_option maxRecDepth 100000 in
set_option maxHeartbeats 1000000 in
theorem markDfaF_ok {gt : Nat} (width : Int) (v : Nat → Value) (l : Nat → List Int) (k : Int) (w : World) (hF : Fam gt 4 w v l) (hgt : gt < w.heap.size) (hl : ∀ i, i < 4 → (l i).length ≤ 1048576) (h0 : 0 ≤ k) (h1 : k ≤ 1000000) :
    Calls Try.prog 9 #[.agg (rowD width v), .int .i64 k] w fun e w' => e = .returned (.int .i64 (k + (l 0).length + (l 1).length + (l 2).length + (l 3).length)) ∧ Below (gt + 1) w w' ∧ (∀ b, b < w.heap.size → (∀ i, i < 4 → (v i).ownBlock ≠ some b) → w'.heap[b]? = w.heap[b]?) ∧
      Fam gt 4 w' v (updL (updL (updL (updL (l) 0 (markL (k) (l 0).length)) 1 (markL (k + (l 0).length) (l 1).length)) 2 (markL (k + (l 0).length + (l 1).length) (l 2).length)) 3 (markL (k + (l 0).length + (l 1).length + (l 2).length) (l 3).length)) := by
  have l0 := hl 0 (by omega); have l1 := hl 1 (by omega); have l2 := hl 2 (by omega); have l3 := hl 3 (by omega)
  have M : MarkSD w gt width v (w.alloc (.cells (rowD width v) 26)) l :=
    ⟨hF.below ((Below.refl _ _).alloc (Nat.le_refl _) _), heap_alloc_new _ _, (Below.refl _ _).alloc (by omega) _, fun i hi b hb => (owns_block (hF.own i hi) hb).2, fun b hlt _ => Below.heap_alloc _ _ _ hlt⟩
  unfold rowD
  go_enter Try.func9, Try.ntmps9
  go_wp2_with fail
  refine (markIntS_ok (B := gt + 1) (v 0) (l 0) (k) _ (M.fam.own 0 (by omega)) (by omega) (by omega) l0).mono ?_
  rintro e w1 ⟨rfl, o0, q0, z0, b0⟩
  replace M := M.step (i := 0) (by omega) o0 q0 b0
  clear o0 q0 z0 b0
  obtain ⟨x0, x1, x2, x3, x4⟩ := row_D M.box
  go_wp2_with fail
  refine (markIntS_ok (B := gt + 1) (v 1) (l 1) (k + (l 0).length) _ (M.fam.own 1 (by omega)) (by omega) (by omega) l1).mono ?_
  rintro e w2 ⟨rfl, o1, q1, z1, b1⟩
  replace M := M.step (i := 1) (by omega) o1 q1 b1
  clear o1 q1 z1 b1
  obtain ⟨x0, x1, x2, x3, x4⟩ := row_D M.box
  go_wp2_with fail
  refine (markIntS_ok (B := gt + 1) (v 2) (l 2) (k + (l 0).length + (l 1).length) _ (M.fam.own 2 (by omega)) (by omega) (by omega) l2).mono ?_
  rintro e w3 ⟨rfl, o2, q2, z2, b2⟩
  replace M := M.step (i := 2) (by omega) o2 q2 b2
  clear o2 q2 z2 b2
  obtain ⟨x0, x1, x2, x3, x4⟩ := row_D M.box
  go_wp2_with fail
  refine (markIntS_ok (B := gt + 1) (v 3) (l 3) (k + (l 0).length + (l 1).length + (l 2).length) _ (M.fam.own 3 (by omega)) (by omega) (by omega) l3).mono ?_
  rintro e w4 ⟨rfl, o3, q3, z3, b3⟩
  replace M := M.step (i := 3) (by omega) o3 q3 b3
  clear o3 q3 z3 b3
  obtain ⟨x0, x1, x2, x3, x4⟩ := row_D M.box
  go_wp2
  go_ret
  exact ⟨rfl, M.below, M.rest, M.fam⟩

set_option maxRecDepth 100000 in
set_option maxHeartbeats 1000000 in
theorem heldDfa_ok {lo : Nat} (width : Int) (v : Nat → Value) (n0 n1 n2 n3 : Nat) (k : Int) (w : World) (s0 : IntsAt lo w (v 0) (markL (k) n0)) (s1 : IntsAt lo w (v 1) (markL (k + n0) n1)) (s2 : IntsAt lo w (v 2) (markL (k + n0 + n1) n2)) (s3 : IntsAt lo w (v 3) (markL (k + n0 + n1 + n2) n3)) (l0 : n0 ≤ 1048576) (l1 : n1 ≤ 1048576) (l2 : n2 ≤ 1048576) (l3 : n3 ≤ 1048576) (h0 : 0 ≤ k) (h1 : k ≤ 1000000) :
    Calls Try.prog 10 #[.agg (rowD width v), .int .i64 k] w fun e w' => e = .returned (.int .i64 (k + n0 + n1 + n2 + n3)) ∧ Below w.heap.size w w' := by
  have hb : Below w.heap.size w (w.alloc (.cells (rowD width v) 26)) := (Below.refl _ _).alloc (Nat.le_refl _) _
  have hrow : (w.alloc (.cells (rowD width v) 26)).heap[w.heap.size]? = some (.cells (rowD width v) 26 (0, 0)) := heap_alloc_new _ _
  unfold rowD at *
  go_enter Try.func10, Try.ntmps10
  go_wp2_with fail
  refine (heldIntS_ok (v 0) n0 (k) _ (s0.below hb) (by omega) (by omega) l0).mono ?_
  rintro e w' ⟨rfl, rfl⟩
  go_wp2_with fail
  refine (heldIntS_ok (v 1) n1 (k + n0) _ (s1.below hb) (by omega) (by omega) l1).mono ?_
  rintro e w' ⟨rfl, rfl⟩
  go_wp2_with fail
  refine (heldIntS_ok (v 2) n2 (k + n0 + n1) _ (s2.below hb) (by omega) (by omega) l2).mono ?_
  rintro e w' ⟨rfl, rfl⟩
  go_wp2_with fail
  refine (heldIntS_ok (v 3) n3 (k + n0 + n1 + n2) _ (s3.below hb) (by omega) (by omega) l3).mono ?_
  rintro e w' ⟨rfl, rfl⟩
  go_wp2
  go_ret
  exact ⟨rfl, hb⟩
end Go.Proofs.Ytgbdlgogccgciaa
