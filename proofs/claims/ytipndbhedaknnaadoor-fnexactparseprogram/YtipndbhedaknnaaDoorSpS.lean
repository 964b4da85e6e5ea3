import Derived.Test.YtipndbhedaknnaaDoorSpI
namespace Go.Proofs.YtipndbhedaknnaaDoor
open Go.RowKit
attribute [local go_sem ↓] Go.wp_at_zero Go.wp_at_succ

/- strings.Split at one byte. -/
structure SpSt (c : UInt8) (T : List UInt8) (k : Nat) (r : ByteArray) (done : List (List UInt8)) : Prop where
  len : done.length = k
  eq : done ++ cutF c r.data.toList = cutF c T
theorem bytes_eq {a : ByteArray} {l : List UInt8} (h : a.data.toList = l) : Value.string a = strV l := by
  unfold strV; subst h; cases a; simp
theorem ext_pre (r : ByteArray) {q s : List UInt8} (h : r.data.toList = q ++ s) : (r.extract 0 q.length).data.toList = q := by
  rw [ext_list, h]; simp
theorem ext_suf (r : ByteArray) {q s : List UInt8} {c : UInt8} (h : r.data.toList = q ++ c :: s) : (r.extract (q.length + 1) r.size).data.toList = s := by
  have hz : r.size = q.length + 1 + s.length := by
    have : r.data.toList.length = r.size := by simp
    rw [← this, h]; simp; omega
  rw [ext_list, h, hz]
  simp
theorem SpSt.next {c : UInt8} {T : List UInt8} {k : Nat} {r : ByteArray} {done : List (List UInt8)} (h : SpSt c T k r done) (hk : k + 1 < (cutF c T).length) :
    ∃ q s : List UInt8, r.data.toList = q ++ c :: s ∧ posF c r.data.toList = q.length ∧ SpSt c T (k + 1) (r.extract (q.length + 1) r.size) (done ++ [q]) ∧ q.length < r.size := by
  have hl := congrArg List.length h.eq
  rw [List.length_append, h.len, cut_len c r.data.toList] at hl
  have hn : ¬posF c r.data.toList = -1 := fun x => by
    have := (cut_none c _ x).2
    omega
  obtain ⟨q, s, e, h1, h2, _⟩ := cut_some c _ hn
  refine ⟨q, s, e, h1, ⟨by simp [h.len], ?_⟩, ?_⟩
  · rw [ext_suf r e, ← h.eq, h2]; simp
  · have : r.data.toList.length = r.size := by simp
    rw [← this, e]; simp
theorem SpSt.last {c : UInt8} {T : List UInt8} {k : Nat} {r : ByteArray} {done : List (List UInt8)} (h : SpSt c T k r done) (hk : k + 1 = (cutF c T).length) : done ++ [r.data.toList] = cutF c T := by
  have hl := congrArg List.length h.eq
  rw [List.length_append, h.len, cut_len c r.data.toList] at hl
  have hn : posF c r.data.toList = -1 := by
    apply Classical.byContradiction
    intro x
    obtain ⟨_, _, _, _, _, h3⟩ := cut_some c _ x
    omega
  rw [← h.eq, (cut_none c _ hn).1]

set_option maxRecDepth 100000 in
set_option maxHeartbeats 1000000 in
theorem genSplit_ok (t : ByteArray) (c : UInt8) (w : World) (ht : t.size ≤ 1048576) :
    Calls Tryd.prog 53 #[.string t, .string ⟨#[c]⟩, .int .i64 0, .int .i64 (-1)] w fun e w' => ∃ g cap, e = .returned (.slice (some ⟨g, 0, none⟩) (cutF c t.data.toList).length cap) ∧ Strs w.heap.size w' g cap (cutF c t.data.toList) ∧ Below w.heap.size w w' := by
  obtain ⟨i0, hi, hz0, hz1, hz2⟩ := info_parts Tryd.infoStr
  have hL := cut_len c t.data.toList
  have hcl : t.data.toList.count c ≤ t.size := by
    have := List.count_le_length (a := c) (l := t.data.toList)
    simpa using this
  obtain ⟨n, hn⟩ : ∃ n, t.data.toList.count c = n := ⟨_, rfl⟩
  have hct := count_ok t c w
  rw [hn] at hL hcl hct
  rw [hL]
  have hmin : min ((n : Int) + 1) ((t.size : Int) + 1) = (n : Int) + 1 := by omega
  go_enter Tryd.func53, Tryd.ntmps53
  go_wp2_with (first | (go_at_call 63; refine hct.mono ?_; rintro e w' ⟨rfl, hw'⟩; subst w') | (refine wpList_make_full _ rfl _ _ 35 rfl w.heap.size 9 i0 _ 1 Tryd.underlying35 hi hz0 hz1 _ _ _ _ (n + 1) rfl rfl (by omega) (by omega) (by rw [hz2]; omega) (by unfold maxLen; omega) (Nat.le_refl _) ?_; intro w1 hown hgrow))
  have hbw : Below w.heap.size w w1 := (Below.refl _ _).grown hgrow (Nat.le_refl _) (by intro k h; cases h)
  clear hgrow
  go_loopw [0, 10] (fun sv iv wr => ∃ (k : Nat) (r : ByteArray) (done : List (List UInt8)), k ≤ n ∧ iv = .int .i64 k ∧ sv = .string r ∧ r.size ≤ t.size ∧ Hid (SpSt c t.data.toList k r done) ∧ Below w.heap.size w wr ∧ ∃ zs : List Value, wr.ownsRow w.heap.size 9 1 (.slice (some ⟨w.heap.size, 0, none⟩) (n + 1) (n + 1)) (n + 1) zs ∧ Hid (zs.take k = done.map strV))
    (fun _ i _ => n - (intOf i).toNat)
  case atStart => exact ⟨0, t, [], Nat.zero_le _, rfl, rfl, Nat.le_refl _, ⟨rfl, rfl⟩, hbw, _, hown, rfl⟩
  case round =>
    obtain ⟨k, r, done, hk, rfl, rfl, hrs, HS, hb, zs, hown, HZ⟩ := hrel
    by_cases hlt : (k : Int) < (n : Int)
    · obtain ⟨q, s2, hq, hpos, HS2, hql⟩ := HS.out.next (by omega)
      have hix := index_ok r c
      rw [hpos] at hix
      have hstr : Hid (Value.string (r.extract 0 q.length) = strV q) := bytes_eq (ext_pre r hq)
      have HS3 : Hid (SpSt c t.data.toList (k + 1) (r.extract (q.length + 1) r.size) (done ++ [q])) := HS2
      clear HS2 hpos hq
      obtain ⟨m, hm⟩ : ∃ m, q.length = m := ⟨_, rfl⟩
      rw [hm] at hix hstr HS3 hql
      have hm0 : (0 : Int) ≤ (m : Int) := by omega
      have hm1 : (m : Int) < (r.size : Int) := by omega
      have hk0 : (0 : Int) ≤ (k : Int) := by omega
      obtain ⟨u0, d0⟩ := own_cell hown (j := k) (by omega)
      have f0 := hown.frozenAt k
      go_wp2_with (go_at_call 61; refine (hix _).mono ?_; rintro e w' ⟨rfl, hw'⟩; subst w')
      have Hz2 : Hid ((zs.set k (.string (r.extract 0 m))).take (k + 1) = (done ++ [q]).map strV) := by
        show _ = _
        have hzl : k < zs.length := by have := hown.1; omega
        rw [List.take_add_one, List.take_set_of_le (Nat.le_refl _), HZ.out, hstr.out]
        simp [hzl]
      go_roundw
      case rel => exact ⟨k + 1, _, done ++ [q], by omega, by go_num, rfl, by rw [ByteArray.size_extract]; omega, HS3.out, hb.setCell (by simp) _, _, (hown.stored _ _).1, Hz2.out⟩
      case measure => simp [intOf]; omega
    · have hkk : k = n := by omega
      subst hkk
      have HL := HS.out.last hL.symm
      have hlen := HS.out.len
      obtain ⟨u0, d0⟩ := own_cell hown (j := k) (by omega)
      have f0 := hown.frozenAt k
      have hk0 : (0 : Int) ≤ (k : Int) := by omega
      go_wp2
      go_ret
      have hs2 := (hown.stored k (.string r)).1
      have hx : zs.set k (.string r) = (cutF c t.data.toList).map strV := by
        have hzl : zs.length = k + 1 := by have := hown.1; omega
        rw [← HL, List.map_append, ← HZ.out]
        apply List.ext_getElem
        · simp [hzl]
        · intro i h1 h2
          rw [List.getElem_set]
          by_cases hi : k = i
          · subst hi
            rw [if_pos rfl, List.getElem_append_right (by simp; omega)]
            simp [strV]
          · rw [if_neg hi, List.getElem_append_left (by simp at h1 ⊢; omega)]
            simp
      refine ⟨_, _, rfl, ?_, hb.setCell (by simp) _⟩
      unfold Strs
      rw [hL, ← hx]
      exact hs2

set_option maxRecDepth 100000 in
set_option maxHeartbeats 1000000 in
theorem split_ok (t : ByteArray) (c : UInt8) (w : World) (ht : t.size ≤ 1048576) :
    Calls Tryd.prog 41 #[.string t, .string ⟨#[c]⟩] w fun e w' => ∃ g cap, e = .returned (.slice (some ⟨g, 0, none⟩) (cutF c t.data.toList).length cap) ∧ Strs w.heap.size w' g cap (cutF c t.data.toList) ∧ Below w.heap.size w w' := by
  go_enter Tryd.func41, Tryd.ntmps41
  go_wp2_with (go_at_call 53; refine (genSplit_ok _ _ _ ht).mono ?_; rintro e w' ⟨g, cap, rfl, hs, hb⟩)
  go_ret
  exact ⟨_, _, rfl, hs, hb⟩
end Go.Proofs.YtipndbhedaknnaaDoor
