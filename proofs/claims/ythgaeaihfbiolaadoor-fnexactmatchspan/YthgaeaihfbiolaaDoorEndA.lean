import Derived.Test.YthgaeaihfbiolaaDoorEndsTreeA
import Derived.Test.YthgaeaihfbiolaaDoorBtwLeaf
import Derived.Deep.QuietTactic
import Derived.Deep.DrawnRows
namespace Go.Proofs.YthgaeaihfbiolaaDoor
open Go.RowKit

theorem Tryd.infoBoolE : (Tryd.prog.info? 4).map (fun i => (i.zero, i.size, i.bytes)) = some (some (.bool false), 1, 1) := by kernel_rfl

/-- A row of marks. -/
def BoolsAt (w : World) (g : Nat) (S : List Bool) : Prop := g < w.heap.size ∧ ∀ i, i < S.length → w.cell? ⟨g, i, none⟩ = some (.bool (S.getD i false))
theorem BoolsAt.below {w w' : World} {g : Nat} {S : List Bool} (h : BoolsAt w g S) (hb : Below w.heap.size w w') : BoolsAt w' g S :=
  ⟨Nat.lt_of_lt_of_le h.1 hb.size, fun i hi => (hb.cell (p := ⟨g, i, none⟩) h.1).trans (h.2 i hi)⟩
theorem filledB {xs : List Value} {k : Nat} {f : Nat → List Value} {a : Value} (h : Filled xs 1 k f) (hl : k < xs.length) (hk : f k = [a]) : Filled (xs.set k a) 1 (k + 1) f := by
  intro j hj c hc
  obtain rfl : c = 0 := by omega
  rw [Nat.mul_one, Nat.add_zero, List.getElem?_set]
  by_cases e : j = k
  · subst e; rw [hk]; simp; omega
  · rw [if_neg (by omega)]
    have := h j (by omega) 0 (by omega)
    simpa using this

theorem hasF_drop (rs : List (Int × Int)) (c k : Nat) (hk : k < rs.length) (a b : Int) (h : rs.getD k (0, 0) = (a, b)) : hasF (rs.drop k) c = (btw c a b || hasF (rs.drop (k + 1)) c) := by
  rw [List.drop_eq_getElem_cons hk]
  have : rs[k] = (a, b) := by rw [← h]; simp [List.getD, hk]
  unfold hasF
  rw [List.any_cons, this]
  rfl

set_option maxRecDepth 100000 in
set_option maxHeartbeats 400000 in
theorem has_ok {lo : Nat} (v : Value) (rs : List (Int × Int)) (c : Nat) (w : World) (hs : RangesAt lo w v rs) (hc8 : c < 256) :
    Calls Tryd.prog 50 #[v, .int .u8 c] w fun e w' => e = .returned (.bool (hasF rs c)) ∧ Below w.heap.size w w' := by
  obtain ⟨ao, cap, rfl, hm, hc⟩ := hs
  have hc0 : (0 : Int) ≤ (c : Int) := by omega
  have hc1 : (c : Int) < 256 := by omega
  go_enter Tryd.func50, Tryd.ntmps50
  go_wp2
  go_loopw [9] (fun i wr => ∃ k : Nat, k ≤ rs.length ∧ i = .int .i64 k ∧ Hid (hasF rs c = hasF (rs.drop k) c) ∧ Below w.heap.size w wr)
    (fun i _ => rs.length - (intOf i).toNat)
  case atStart => exact ⟨0, Nat.zero_le _, rfl, rfl, Below.refl _ _⟩
  case round =>
    obtain ⟨k, hk, rfl, HS, hb⟩ := hrel
    by_cases hlt : k < rs.length
    · obtain ⟨b, o, x, y, rfl, Hn, hbl, c0, c1⟩ := hc.elem hb hlt
      have hba : Below w.heap.size w (wr.alloc (.cells #[.int .i64 x, .int .i64 y] 126)) := hb.alloc hb.size _
      have HD : Hid (hasF (rs.drop k) c = (btw c x y || hasF (rs.drop (k + 1)) c)) := hasF_drop rs c k hlt x y Hn.out
      go_wp2_with fail
      refine (between_ok _ _ _ _).mono ?_
      rintro e w2 ⟨rfl, rfl⟩
      cases hq : btw c x y
      · go_wp2
        go_roundw
        case rel => exact ⟨k + 1, by omega, by go_num, by show _ = _; rw [HS.out, HD.out, hq, Bool.false_or], hba⟩
        case measure => simp [intOf]; omega
      · go_wp2
        go_ret
        exact ⟨ret_bool (by rw [HS.out, HD.out, hq, Bool.true_or]), hba⟩
    · go_wp2
      go_ret
      exact ⟨ret_bool (by rw [HS.out, List.drop_eq_nil_of_le (by omega)]; rfl), hb⟩

def orL (X Y : List Bool) : List Bool := (List.range X.length).map fun i => X.getD i false || Y.getD i false
theorem orL_len (X Y : List Bool) : (orL X Y).length = X.length := by simp [orL]
theorem orL_get (X Y : List Bool) {i : Nat} (h : i < X.length) : (orL X Y).getD i false = (X.getD i false || Y.getD i false) := by simp [orL, List.getD_eq_getElem?_getD, h]
theorem isSet_or {n : Nat} {X Y : List Bool} {P Q : Nat → Prop} (hx : IsSet n X P) (hy : IsSet n Y Q) : IsSet n (orL X Y) (fun j => P j ∨ Q j) := by
  refine ⟨by rw [orL_len]; exact hx.len, fun j => ?_⟩
  by_cases hj : j < X.length
  · rw [orL_get _ _ hj, Bool.or_eq_true, hx.iff, hy.iff]
  · have e1 : (orL X Y).getD j false = false := by rw [List.getD_eq_getElem?_getD, List.getElem?_eq_none (by rw [orL_len]; omega)]; rfl
    rw [e1]
    constructor
    · intro h; cases h
    · rintro (h | h)
      · exact absurd (hx.le j h) (by have := hx.len; omega)
      · exact absurd (hy.le j h) (by have := hx.len; omega)

set_option maxRecDepth 100000 in
set_option maxHeartbeats 800000 in
theorem or_ok (n : Nat) (X Y : List Bool) (g g2 cap cap2 : Nat) (w : World) (hX : BoolsAt w g X) (hY : BoolsAt w g2 Y) (hxn : X.length = n) (hyn : Y.length = n) (hn : n ≤ 1048576) :
    Calls Tryd.prog 51 #[.slice (some ⟨g, 0, none⟩) n cap, .slice (some ⟨g2, 0, none⟩) n cap2] w fun e w' => e = .returned (.slice (some ⟨w.heap.size, 0, none⟩) n n) ∧ BoolsAt w' w.heap.size (orL X Y) ∧ Below w.heap.size w w' := by
  have Hx : Hid _ := hxn
  have Hy : Hid _ := hyn
  clear hxn hyn
  obtain ⟨i0, hi, hz0, hz1, hz2⟩ := info_parts Tryd.infoBoolE
  go_enter Tryd.func51, Tryd.ntmps51
  go_wp2_with (refine wpList_make_full _ rfl _ _ 65 rfl w.heap.size 4 i0 _ 1 Tryd.underlying65 hi hz0 hz1 _ _ _ _ n rfl rfl rfl rfl (by rw [hz2]; omega) (by unfold maxLen; omega) (Nat.le_refl _) ?_; intro w1 hown hgrow)
  have hbw : Below w.heap.size w w1 := (Below.refl _ _).grown hgrow (Nat.le_refl _) (by intro k h; cases h)
  clear hgrow
  go_loopw [12] (fun i wr => ∃ k : Nat, k ≤ n ∧ i = .int .i64 k ∧ Below w.heap.size w wr ∧ ∃ zs : List Value, wr.ownsRow w.heap.size 4 1 (.slice (some ⟨w.heap.size, 0, none⟩) n n) n zs ∧
      Filled zs 1 k (fun j => [.bool ((orL X Y).getD j false)]))
    (fun i _ => n - (intOf i).toNat)
  case atStart => exact ⟨0, Nat.zero_le _, rfl, hbw, _, hown, fun j hj => absurd hj (Nat.not_lt_zero _)⟩
  case round =>
    obtain ⟨k, hk, rfl, hb, zs, hown, hfill⟩ := hrel
    by_cases hlt : k < n
    · have c0 := (hb.cell (p := ⟨g, k, none⟩) hX.1).trans (hX.2 k (by rw [Hx.out]; exact hlt))
      have c1 := (hb.cell (p := ⟨g2, k, none⟩) hY.1).trans (hY.2 k (by rw [Hy.out]; exact hlt))
      have Ho : Hid ((orL X Y).getD k false = (X.getD k false || Y.getD k false)) := orL_get X Y (by rw [Hx.out]; exact hlt)
      generalize X.getD k false = a at *
      generalize Y.getD k false = b at *
      obtain ⟨u0, d0⟩ := own_cell hown (j := k) (by omega)
      have f0 := hown.frozenAt k
      have hg1 := hX.1
      have hg2 := hY.1
      have hi0 : (0 : Int) ≤ (k : Int) := by omega
      have hi1 : (k : Int) < (n : Int) := by omega
      cases a
      all_goals
        go_wp2
        go_roundw
        case rel => exact ⟨k + 1, by omega, by go_num, hb.setCell (by simp) _, _, (hown.stored _ _).1, filledB hfill (by have := hown.1; omega) (by rw [Ho.out]; rfl)⟩
        case measure => simp [intOf]; omega
    · go_wp2
      have hkk : k = n := by omega
      refine bodyPost_ret (v := .slice (some ⟨w.heap.size, 0, none⟩) n n) (by simp [results, Tryd.results51, go_sem]) rfl ⟨rfl, ⟨own_lt hown, fun i hi => ?_⟩, hb⟩
      rw [hkk] at hfill
      have e0 := filled_cell hown hfill (i := i) (c := 0) (by rw [orL_len, Hx.out] at hi; exact hi) (by omega)
      simpa using e0

def addsF (X Y : List Bool) : Bool := (List.range X.length).any fun i => Y.getD i false && !X.getD i false
def addsN (X Y : List Bool) (k : Nat) : Bool := (List.range k).any fun i => Y.getD i false && !X.getD i false
theorem addsN_succ (X Y : List Bool) (k : Nat) : addsN X Y (k + 1) = (addsN X Y k || (Y.getD k false && !X.getD k false)) := by simp [addsN, List.range_succ]
set_option maxRecDepth 100000 in
set_option maxHeartbeats 800000 in
theorem adds_ok (n : Nat) (X Y : List Bool) (g g2 cap cap2 : Nat) (w : World) (hX : BoolsAt w g X) (hY : BoolsAt w g2 Y) (hxn : X.length = n) (hyn : Y.length = n) (hn : n ≤ 1048576) :
    Calls Tryd.prog 62 #[.slice (some ⟨g, 0, none⟩) n cap, .slice (some ⟨g2, 0, none⟩) n cap2] w fun e w' => e = .returned (.bool (addsN X Y n)) ∧ Below w.heap.size w w' := by
  have Hx : Hid _ := hxn
  have Hy : Hid _ := hyn
  clear hxn hyn
  go_enter Tryd.func62, Tryd.ntmps62
  go_wp2
  go_loopw [8] (fun i wr => ∃ k : Nat, k ≤ n ∧ i = .int .i64 k ∧ Below w.heap.size w wr ∧ Hid (addsN X Y k = false))
    (fun i _ => n - (intOf i).toNat)
  case atStart => exact ⟨0, Nat.zero_le _, rfl, Below.refl _ _, rfl⟩
  case round =>
    obtain ⟨k, hk, rfl, hb, HF⟩ := hrel
    by_cases hlt : k < n
    · have c0 := (hb.cell (p := ⟨g, k, none⟩) hX.1).trans (hX.2 k (by rw [Hx.out]; exact hlt))
      have c1 := (hb.cell (p := ⟨g2, k, none⟩) hY.1).trans (hY.2 k (by rw [Hy.out]; exact hlt))
      have Ho : Hid (addsN X Y (k + 1) = (Y.getD k false && !X.getD k false)) := by show _ = _; rw [addsN_succ, HF.out, Bool.false_or]
      have Hm : Hid (addsN X Y (k + 1) = true → addsN X Y n = true) := by
        intro h
        unfold addsN at h ⊢
        obtain ⟨i, hi, h2⟩ := List.any_eq_true.1 h
        exact List.any_eq_true.2 ⟨i, by simp at hi ⊢; omega, h2⟩
      generalize X.getD k false = a at *
      generalize Y.getD k false = b at *
      have hi0 : (0 : Int) ≤ (k : Int) := by omega
      have hi1 : (k : Int) < (n : Int) := by omega
      cases b <;> cases a
      case true.false =>
        go_wp2
        go_ret
        exact ⟨ret_bool (Hm.out (by rw [Ho.out]; rfl)).symm, hb⟩
      all_goals
        go_wp2
        go_roundw
        case rel => exact ⟨k + 1, by omega, by go_num, hb, by show _ = _; rw [Ho.out]; rfl⟩
        case measure => simp [intOf]; omega
    · have hkk : k = n := by omega
      subst hkk
      go_wp2
      go_ret
      exact ⟨ret_bool HF.out.symm, hb⟩

theorem made_bools (N : Nat) : (madeCells (Value.bool false).cells (N * 1)).toList = List.replicate N (.bool false) := by
  apply List.ext_getElem
  · simp [madeCells]
  · intro i h1 h2
    simp [madeCells, Value.cells, Nat.mod_one]
def onlyL (n a : Nat) : List Bool := (List.replicate (n + 1) false).set a true
theorem isSet_only (n a : Nat) (h : a ≤ n) : IsSet n (onlyL n a) (· = a) := by
  refine ⟨by simp [onlyL], fun j => ?_⟩
  unfold onlyL
  rw [List.getD_eq_getElem?_getD, List.getElem?_set]
  by_cases e : a = j
  · subst e; rw [if_pos rfl, if_pos (by simp; omega)]; simp
  · rw [if_neg e]
    have : (List.replicate (n + 1) false)[j]?.getD false = false := by
      rw [List.getElem?_replicate]; split <;> rfl
    rw [this]
    constructor
    · intro h; cases h
    · intro h; exact absurd h.symm e
set_option maxRecDepth 100000 in
set_option maxHeartbeats 400000 in
theorem only_ok (n a : Nat) (w : World) (ha : a ≤ n) (hn : n ≤ 1048576) :
    Calls Tryd.prog 29 #[.int .i64 n, .int .i64 a] w fun e w' => e = .returned (.slice (some ⟨w.heap.size, 0, none⟩) (n + 1) (n + 1)) ∧ BoolsAt w' w.heap.size (onlyL n a) ∧ Below w.heap.size w w' := by
  obtain ⟨i0, hi, hz0, hz1, hz2⟩ := info_parts Tryd.infoBoolE
  go_enter Tryd.func29, Tryd.ntmps29
  go_wp2_with (refine wpList_make_full _ rfl _ _ 65 rfl w.heap.size 4 i0 _ 1 Tryd.underlying65 hi hz0 hz1 _ _ _ _ (n + 1) rfl rfl (by first | rfl | omega) (by first | rfl | omega) (by rw [hz2]; omega) (by unfold maxLen; omega) (Nat.le_refl _) ?_; intro w1 hown hgrow; rw [made_bools] at hown; obtain ⟨u0, d0⟩ := own_cell hown (j := a) (by omega); have f0 := hown.frozenAt a)
  have hbw : Below w.heap.size w w1 := (Below.refl _ _).grown hgrow (Nat.le_refl _) (by intro k h; cases h)
  obtain ⟨s1, s2⟩ := hown.stored a (.bool true)
  refine bodyPost_ret (v := .slice (some ⟨w.heap.size, 0, none⟩) (n + 1) (n + 1)) (by simp [results, Tryd.results29, go_sem]) rfl ⟨rfl, ⟨own_lt s1, fun i hi => ?_⟩, hbw.setCell (by simp) _⟩
  rw [s1.cellAt i (by simp [onlyL] at hi; omega)]
  rw [show (List.replicate (n + 1) (Value.bool false)).set a (.bool true) = (onlyL n a).map Value.bool by simp [onlyL, List.map_set]]
  rw [List.getElem?_map, List.getD_eq_getElem?_getD, List.getElem?_eq_getElem hi]
  rfl
end Go.Proofs.YthgaeaihfbiolaaDoor
