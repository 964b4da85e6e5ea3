import Derived.Test.YtipndbhedaknnaaDoorTxt
namespace Go.Proofs.YtipndbhedaknnaaDoor
open Go.RowKit
attribute [local go_sem ↓] Go.wp_at_zero Go.wp_at_succ

/- WORDS. -/
/-- The byte at a place; -1 behind the end. -/
def atF (t : ByteArray) (k : Nat) : Int := if h : k < t.size then (t[k].toNat : Int) else -1
theorem atF_bd (t : ByteArray) (k : Nat) : -1 ≤ atF t k ∧ atF t k ≤ 255 := by
  unfold atF
  split
  · rename_i h
    have := t[k].toNat_lt
    omega
  · omega
set_option maxHeartbeats 400000 in
theorem l1At_ok (t : ByteArray) (k : Nat) (ci : Int) (w : World) (hci : ci = k) :
    Calls Tryd.prog 45 #[.string t, .int .i64 ci] w fun e w' => e = .returned (.int .i64 (atF t k)) ∧ w' = w := by
  subst hci
  unfold atF
  have h0 : (0 : Int) ≤ (k : Int) := by omega
  by_cases hk : k < t.size
  · rw [dif_pos hk]
    have h1 : (k : Int) < (t.size : Int) := by omega
    have hc : t[k].toNat < 256 := t[k].toNat_lt
    go_enter Tryd.func45, Tryd.ntmps45
    go_wp2
    go_ret
    exact ⟨rfl, rfl⟩
  · rw [dif_neg hk]
    have h1 : (t.size : Int) ≤ (k : Int) := by omega
    go_enter Tryd.func45, Tryd.ntmps45
    go_wp2
    go_ret
    exact ⟨rfl, rfl⟩
def hexF (c : Int) : Int := if btw c 48 57 then c - 48 else if btw c 65 70 then c - 65 + 10 else -1
theorem hexF_bd (c : Int) : -1 ≤ hexF c ∧ hexF c ≤ 15 := by
  unfold hexF btw
  split
  · rename_i h; simp at h; omega
  · split
    · rename_i h; simp at h; omega
    · omega
set_option maxHeartbeats 400000 in
theorem l5Hex_ok (c : Int) (w : World) (h0 : -1 ≤ c) (h1 : c ≤ 255) :
    Calls Tryd.prog 46 #[.int .i64 c] w fun e w' => e = .returned (.int .i64 (hexF c)) ∧ w' = w := by
  unfold hexF
  cases a : btw c 48 57
  · cases b : btw c 65 70
    all_goals
      go_enter Tryd.func46, Tryd.ntmps46
      go_wp2_with (go_at_call 33; refine (between_ok _ _ _ _).mono ?_; rintro e w' ⟨rfl, rfl⟩)
      go_ret
      exact ⟨rfl, rfl⟩
  · go_enter Tryd.func46, Tryd.ntmps46
    go_wp2_with (go_at_call 33; refine (between_ok _ _ _ _).mono ?_; rintro e w' ⟨rfl, rfl⟩)
    go_ret
    exact ⟨rfl, rfl⟩

/-- The text of a word's pieces. -/
def wordL : List UInt8 → Option (List UInt8)
  | [] => some []
  | c :: rest =>
    if c.toNat = 37 then (match rest with
      | h :: l :: rest' => if 0 ≤ hexF h.toNat ∧ 0 ≤ hexF l.toNat then (wordL rest').map (UInt8.ofNat (hexF h.toNat * 16 + hexF l.toNat).toNat :: ·) else none
      | _ => none)
    else if btw c.toNat 33 126 then (wordL rest).map (c :: ·) else none
def wordF : List UInt8 → Option (List UInt8)
  | [] => none
  | c :: rest => if c.toNat = 61 then wordL rest else none
theorem wordL_nil : wordL [] = some [] := by rw [wordL]
theorem wordL_one {c : UInt8} (rest : List UInt8) (h : ¬c.toNat = 37) (hb : btw c.toNat 33 126 = true) : wordL (c :: rest) = (wordL rest).map (c :: ·) := by
  rcases rest with _ | ⟨a, _ | ⟨b, r⟩⟩
  · rw [wordL_nil, wordL, if_neg h, if_pos hb, wordL_nil]
    intro _ _ _ e; cases e
  · generalize e : wordL [a] = z
    rw [wordL, if_neg h, if_pos hb, e]
    intro _ _ _ e; cases e
  · generalize e : wordL (a :: b :: r) = z
    rw [wordL, if_neg h, if_pos hb, e]
theorem wordL_bad {c : UInt8} (rest : List UInt8) (h : ¬c.toNat = 37) (hb : btw c.toNat 33 126 = false) : wordL (c :: rest) = none := by
  rcases rest with _ | ⟨a, _ | ⟨b, r⟩⟩ <;> rw [wordL, if_neg h, if_neg (by simp [hb])] <;> (intro _ _ _ e; cases e)
theorem wordL_hex {c : UInt8} (h l : UInt8) (rest : List UInt8) (hc : c.toNat = 37) (h1 : 0 ≤ hexF h.toNat) (h2 : 0 ≤ hexF l.toNat) : wordL (c :: h :: l :: rest) = (wordL rest).map (UInt8.ofNat (hexF h.toNat * 16 + hexF l.toNat).toNat :: ·) := by
  rw [wordL, if_pos hc, if_pos ⟨h1, h2⟩]
theorem wordL_nohex {c : UInt8} (rest : List UInt8) (hc : c.toNat = 37) (h : ∀ a b r, rest = a :: b :: r → ¬(0 ≤ hexF a.toNat ∧ 0 ≤ hexF b.toNat)) : wordL (c :: rest) = none := by
  rcases rest with _ | ⟨a, _ | ⟨b, r⟩⟩
  · rw [wordL, if_pos hc]
    intro _ _ _ e; cases e
  · rw [wordL, if_pos hc]
    intro _ _ _ e; cases e
  · rw [wordL, if_pos hc, if_neg (h _ _ _ rfl)]
theorem hexF_neg : hexF (-1) = -1 := by decide
/-- Where the reading of a word stands. -/
structure WordSt (t : ByteArray) (k : Nat) (out : List UInt8) : Prop where
  eq : wordF t.data.toList = (wordL (t.data.toList.drop k)).map (out ++ ·)
  le : out.length ≤ k
theorem map_map' (o : Option (List UInt8)) (a : List UInt8) (x : UInt8) : (o.map (x :: ·)).map (a ++ ·) = o.map ((a ++ [x]) ++ ·) := by cases o <;> simp
theorem WordSt.start (t : ByteArray) (h : atF t 0 = 61) : WordSt t 1 [] := by
  have h0 : 0 < t.size := by
    apply Classical.byContradiction
    intro hn
    have e0 : atF t 0 = -1 := by unfold atF; rw [dif_neg hn]
    omega
  have e0 : atF t 0 = (t[0].toNat : Int) := by unfold atF; rw [dif_pos h0]
  rw [e0] at h
  refine ⟨?_, Nat.zero_le _⟩
  have := drop_at t 0 h0
  rw [List.drop_zero] at this
  rw [this, wordF, if_pos (by omega)]
  simp
theorem WordSt.none (t : ByteArray) (h : ¬atF t 0 = 61) : wordF t.data.toList = none := by
  by_cases h0 : 0 < t.size
  · have e0 : atF t 0 = (t[0].toNat : Int) := by unfold atF; rw [dif_pos h0]
    rw [e0] at h
    have := drop_at t 0 h0
    rw [List.drop_zero] at this
    rw [this, wordF, if_neg (by omega)]
  · have : t.data.toList = [] := List.eq_nil_of_length_eq_zero (by rw [Array.length_toList]; show t.size = 0; omega)
    rw [this, wordF]
theorem WordSt.full {t : ByteArray} {k : Nat} {out : List UInt8} (h : WordSt t k out) (hk : ¬k < t.size) : wordF t.data.toList = some out := by
  rw [h.eq, List.drop_eq_nil_of_le (by simp; omega), wordL_nil]
  simp
theorem WordSt.one {t : ByteArray} {k : Nat} {out : List UInt8} (h : WordSt t k out) (hk : k < t.size) (hc : ¬(t[k].toNat : Int) = 37) (hb : btw t[k].toNat 33 126 = true) : WordSt t (k + 1) (out ++ [t[k]]) := by
  refine ⟨?_, by have := h.le; simp; omega⟩
  rw [h.eq, drop_at t k hk, wordL_one _ (by omega) hb, map_map']
theorem WordSt.bad {t : ByteArray} {k : Nat} {out : List UInt8} (h : WordSt t k out) (hk : k < t.size) (hc : ¬(t[k].toNat : Int) = 37) (hb : btw t[k].toNat 33 126 = false) : wordF t.data.toList = .none := by
  rw [h.eq, drop_at t k hk, wordL_bad _ (by omega) hb]
  rfl
theorem WordSt.hex {t : ByteArray} {k : Nat} {out : List UInt8} (h : WordSt t k out) (hk : k < t.size) (hc : (t[k].toNat : Int) = 37) (h1 : 0 ≤ hexF (atF t (k + 1))) (h2 : 0 ≤ hexF (atF t (k + 2))) :
    k + 3 ≤ t.size ∧ WordSt t (k + 3) (out ++ [UInt8.ofNat (hexF (atF t (k + 1)) * 16 + hexF (atF t (k + 2))).toNat]) := by
  have k2 : k + 2 < t.size := by
    apply Classical.byContradiction
    intro hn
    unfold atF at h2
    rw [dif_neg hn, hexF_neg] at h2
    omega
  have k1 : k + 1 < t.size := by omega
  refine ⟨by omega, ?_, by have := h.le; simp; omega⟩
  have e1 : atF t (k + 1) = (t[k + 1].toNat : Int) := by unfold atF; rw [dif_pos k1]
  have e2 : atF t (k + 2) = (t[k + 2].toNat : Int) := by unfold atF; rw [dif_pos k2]
  rw [h.eq, drop_at t k hk, drop_at t (k + 1) k1, drop_at t (k + 1 + 1) k2, wordL_hex _ _ _ (by omega) (by rw [← e1]; exact h1) (by have := h2; rw [e2] at this; exact this), map_map', e1, e2]
theorem WordSt.nohex {t : ByteArray} {k : Nat} {out : List UInt8} (h : WordSt t k out) (hk : k < t.size) (hc : (t[k].toNat : Int) = 37) (hn : hexF (atF t (k + 1)) < 0 ∨ hexF (atF t (k + 2)) < 0) : wordF t.data.toList = .none := by
  rw [h.eq, drop_at t k hk, wordL_nohex _ (by omega)]
  · rfl
  intro a b r hr ⟨ha, hb⟩
  have hl := congrArg List.length hr
  simp at hl
  have k2 : k + 2 < t.size := by omega
  have k1 : k + 1 < t.size := by omega
  rw [drop_at t (k + 1) k1, drop_at t (k + 1 + 1) k2] at hr
  simp only [List.cons.injEq] at hr
  obtain ⟨ra, rb, _⟩ := hr
  have e1 : atF t (k + 1) = (a.toNat : Int) := by unfold atF; rw [dif_pos k1, ra]
  have e2 : atF t (k + 2) = (b.toNat : Int) := by unfold atF; rw [dif_pos k2]; exact congrArg (fun x : UInt8 => (x.toNat : Int)) rb
  rw [e1, e2] at hn
  omega
def optL (o : Option (List UInt8)) : List UInt8 := o.getD []
theorem Tryd.infoByte : (Tryd.prog.info? 5).map (fun i => (i.zero, i.size, i.bytes)) = some (some (.int .u8 0), 1, 1) := by kernel_rfl
def byteV (b : UInt8) : Value := .int .u8 (b.toNat : Int)
def Bytes (B : Nat) (w : World) (g cap : Nat) (bs : List UInt8) : Prop := w.ownsRow B 5 1 (.slice (some ⟨g, 0, none⟩) bs.length cap) bs.length (bs.map byteV)
theorem bytes_one {B g cap : Nat} {w : World} {bs : List UInt8} {b : UInt8} {u : Value} (own : w.ownsRow B 5 1 (.slice (some ⟨g, 0, none⟩) (bs.length + 1) cap) (bs.length + 1) (bs.map byteV ++ [u])) (hu : byteV b = u) : Bytes B w g cap (bs ++ [b]) := by
  unfold Bytes
  rw [List.map_append, List.length_append]
  simp only [List.map_cons, List.map_nil, hu]
  exact own
theorem byteV_of {n : Int} (h0 : 0 ≤ n) (h1 : n < 256) : byteV (UInt8.ofNat n.toNat) = .int .u8 n := by
  unfold byteV
  congr 1
  rw [UInt8.toNat_ofNat']
  omega
theorem byteV_at (b : UInt8) : byteV b = .int .u8 ((b.toNat : Int) % 256) := by
  have := b.toNat_lt
  unfold byteV
  congr 1
  omega
theorem Bytes.cellsAdd {B g cap : Nat} {w : World} {bs : List UInt8} (h : Bytes B w g cap bs) : ∀ j (hj : j < bs.length), w.cell? ((⟨g, 0, none⟩ : Addr).add j) = some (.int .u8 (bs[j].toNat : Int)) := by
  intro j hj
  have e : (⟨g, 0, none⟩ : Addr).add j = ⟨g, j, none⟩ := by unfold Addr.add; split <;> simp_all
  rw [e, World.ownsRow.cellAt h j (by simpa using hj)]
  simp [hj, byteV]
theorem ret_str2 {a b : ByteArray} {x y : Bool} (h : a = b) (k : x = y) : Ending.returned (.tuple #[.string a, .bool x]) = .returned (.tuple #[.string b, .bool y]) := by rw [h, k]

set_option maxRecDepth 100000 in
set_option maxHeartbeats 2000000 in
theorem l5Word_ok (t : ByteArray) (w : World) (hsz : t.size ≤ 1048576) :
    Calls Tryd.prog 26 #[.string t] w fun e w' => e = .returned (.tuple #[strV (optL (wordF t.data.toList)), .bool (wordF t.data.toList).isSome]) ∧ Below w.heap.size w w' := by
  obtain ⟨i0, hi, hz0, hz1, hz2⟩ := info_parts Tryd.infoByte
  by_cases h61 : atF t 0 = 61
  case neg =>
    have HN : Hid (wordF t.data.toList = none) := WordSt.none t h61
    have hne : (atF t 0 != 61) = true := by simpa using h61
    go_enter Tryd.func26, Tryd.ntmps26
    go_wp2_with (go_at_call 45; refine (l1At_ok t 0 _ _ rfl).mono ?_; rintro e w' ⟨rfl, hw'⟩; subst w')
    go_ret2
    exact ⟨ret_str2 (by rw [HN.out]; rfl) (by rw [HN.out]; rfl), Below.refl _ _⟩
  have HS0 : Hid (WordSt t 1 []) := WordSt.start t h61
  have hne : (atF t 0 != 61) = false := by simpa using h61
  clear h61
  go_enter Tryd.func26, Tryd.ntmps26
  go_wp2_with (go_at_call 45; refine (l1At_ok t 0 _ _ rfl).mono ?_; rintro e w' ⟨rfl, hw'⟩; subst w')
  go_loopw [4, 5] (fun ov iv wr => ∃ (k g cap : Nat) (out : List UInt8), 1 ≤ k ∧ k ≤ t.size + 1 ∧ iv = .int .i64 k ∧ ov = .slice (some ⟨g, 0, none⟩) out.length cap ∧ Hid (WordSt t k out) ∧ Bytes w.heap.size wr g cap out ∧ Below w.heap.size w wr)
    (fun _ i _ => t.size + 1 - (intOf i).toNat)
  case atStart => exact ⟨1, w.heap.size, 0, [], Nat.le_refl _, by omega, rfl, rfl, HS0, ownsRow_new w _, (Below.refl _ _).alloc (Nat.le_refl _) _⟩
  case round =>
    obtain ⟨k, g, cap, out, hk0, hk, rfl, rfl, HS, hown, hb⟩ := hrel
    have hbs := hb.size
    have hol := HS.out.le
    have hgB := (own_form hown).1
    by_cases hlt : k < t.size
    case neg =>
      have HF : Hid (wordF t.data.toList = some out) := HS.out.full hlt
      have hcv := run_convert_bytes_back (P := Tryd.prog) wr 88 9 5 ⟨g, 0, none⟩ cap out Tryd.underlying88 Tryd.underlying5 Tryd.underlying9 hown.cellsAdd
      go_wp2
      go_ret2
      exact ⟨ret_str2 (by rw [HF.out]; rfl) (by rw [HF.out]; rfl), hb⟩
    have hi0 : (0 : Int) ≤ (k : Int) := by omega
    have hi1 : (k : Int) < (t.size : Int) := by omega
    have hcb : t[k].toNat < 256 := t[k].toNat_lt
    by_cases hc : (t[k].toNat : Int) = 37
    · obtain ⟨x1, x2⟩ := atF_bd t (k + 1)
      obtain ⟨y1, y2⟩ := atF_bd t (k + 2)
      by_cases h1 : hexF (atF t (k + 1)) < 0
      · have HN : Hid (wordF t.data.toList = none) := HS.out.nohex hlt hc (.inl h1)
        go_wp2_with (first | (go_at_call 45; first | (refine (l1At_ok t (k + 1) _ _ (by omega)).mono ?_; rintro e w' ⟨rfl, hw'⟩; subst w') | (refine (l1At_ok t (k + 2) _ _ (by omega)).mono ?_; rintro e w' ⟨rfl, hw'⟩; subst w')) | (go_at_call 46; refine (l5Hex_ok _ _ (by omega) (by omega)).mono ?_; rintro e w' ⟨rfl, hw'⟩; subst w'))
        go_ret2
        exact ⟨ret_str2 (by rw [HN.out]; rfl) (by rw [HN.out]; rfl), hb⟩
      · by_cases h2 : hexF (atF t (k + 2)) < 0
        · have HN : Hid (wordF t.data.toList = none) := HS.out.nohex hlt hc (.inr h2)
          go_wp2_with (first | (go_at_call 45; first | (refine (l1At_ok t (k + 1) _ _ (by omega)).mono ?_; rintro e w' ⟨rfl, hw'⟩; subst w') | (refine (l1At_ok t (k + 2) _ _ (by omega)).mono ?_; rintro e w' ⟨rfl, hw'⟩; subst w')) | (go_at_call 46; refine (l5Hex_ok _ _ (by omega) (by omega)).mono ?_; rintro e w' ⟨rfl, hw'⟩; subst w'))
          go_ret2
          exact ⟨ret_str2 (by rw [HN.out]; rfl) (by rw [HN.out]; rfl), hb⟩
        · obtain ⟨k3, HN⟩ := HS.out.hex hlt hc (by omega) (by omega)
          obtain ⟨p1, p2⟩ := hexF_bd (atF t (k + 1))
          obtain ⟨q1, q2⟩ := hexF_bd (atF t (k + 2))
          have HV : Hid (byteV (UInt8.ofNat (hexF (atF t (k + 1)) * 16 + hexF (atF t (k + 2))).toNat) = .int .u8 (hexF (atF t (k + 1)) * 16 + hexF (atF t (k + 2)))) := byteV_of (by omega) (by omega)
          go_wp2_with (first | (go_at_call 45; first | (refine (l1At_ok t (k + 1) _ _ (by omega)).mono ?_; rintro e w' ⟨rfl, hw'⟩; subst w') | (refine (l1At_ok t (k + 2) _ _ (by omega)).mono ?_; rintro e w' ⟨rfl, hw'⟩; subst w')) | (go_at_call 46; refine (l5Hex_ok _ _ (by omega) (by omega)).mono ?_; rintro e w' ⟨rfl, hw'⟩; subst w') | (refine wpList_append_one _ rfl (.tmp 39) (.tmp 45) 88 rfl w.heap.size 5 i0 _ 1 Tryd.underlying88 hi hz0 hz1 hz2 rfl g cap out.length (out.map byteV) _ rfl hown rfl rfl (by omega) (by omega) hbs ?_; intro g' cap' w2 own2 grow2 at2))
          go_roundw
          case rel => exact ⟨k + 3, g', cap', _, by omega, by omega, by go_num, by simp, HN, bytes_one own2 HV.out, hb.grown grow2 hbs (by intro q hq; cases hq; exact hgB)⟩
          case measure => simp [intOf]; omega
    · cases hbt : btw t[k].toNat 33 126
      · have HN : Hid (wordF t.data.toList = none) := HS.out.bad hlt hc hbt
        go_wp2_with (go_at_call 33; refine (between_ok _ _ _ _).mono ?_; rintro e w' ⟨rfl, hw'⟩; subst w')
        go_ret2
        exact ⟨ret_str2 (by rw [HN.out]; rfl) (by rw [HN.out]; rfl), hb⟩
      · have HN : Hid (WordSt t (k + 1) (out ++ [t[k]])) := HS.out.one hlt hc hbt
        go_wp2_with (first | (go_at_call 33; refine (between_ok _ _ _ _).mono ?_; rintro e w' ⟨rfl, hw'⟩; subst w') | (refine wpList_append_one _ rfl (.tmp 52) (.tmp 55) 88 rfl w.heap.size 5 i0 _ 1 Tryd.underlying88 hi hz0 hz1 hz2 rfl g cap out.length (out.map byteV) _ rfl hown rfl rfl (by omega) (by omega) hbs ?_; intro g' cap' w2 own2 grow2 at2))
        go_roundw
        case rel => exact ⟨k + 1, g', cap', out ++ [t[k]], by omega, by omega, by go_num, by simp, HN, bytes_one own2 (by first | rfl | exact byteV_at _), hb.grown grow2 hbs (by intro q hq; cases hq; exact hgB)⟩
        case measure => simp [intOf]; omega
end Go.Proofs.YtipndbhedaknnaaDoor
