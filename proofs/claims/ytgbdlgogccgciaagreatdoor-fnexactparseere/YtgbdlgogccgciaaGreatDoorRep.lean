import Derived.Test.YtgbdlgogccgciaaGreatDoorPart
namespace Go.Proofs.YtgbdlgogccgciaaGreatDoor
open Go.RowKit

/-- A part's tree of at most n storeys, with its weight. -/
def IsPart : Nat → Value → Int → Prop
  | 0, _, _ => False
  | n + 1, v, wt =>
    (∃ x, v = .iface 169 (.agg #[x]) ∧ wt = 1) ∨
    (∃ l r a b, v = .iface 161 (.agg #[l, r]) ∧ IsPart n l a ∧ IsPart n r b ∧ wt = capW (a + b)) ∨
    (∃ l r a b, v = .iface 162 (.agg #[l, r]) ∧ IsPart n l a ∧ IsPart n r b ∧ wt = capW (a + b)) ∨
    (∃ l a mn mx, v = .iface 174 (.agg #[l, .int .i64 mn, .int .i64 mx]) ∧ IsPart n l a ∧ boundsB mn mx = true ∧ wt = capW (a * copies mn mx)) ∨
    (∃ l g, v = .iface 165 (.agg #[l, .int .i64 g]) ∧ IsPart n l wt)

theorem capW_bd {n : Int} (h : 1 ≤ n) : 1 ≤ capW n ∧ capW n ≤ 2001 := by unfold capW; split <;> omega
theorem capW_le {n : Int} (h : n ≤ 2001) : capW n = n := by unfold capW; rw [if_pos h]

theorem IsPart.facts : ∀ (n : Nat) (v : Value) (wt : Int), IsPart n v wt → Weighs v wt ∧ 1 ≤ wt ∧ wt ≤ 2001
  | 0, _, _, h => h.elim
  | n + 1, v, wt, h => by
    rcases h with ⟨f, rfl, rfl⟩ | ⟨l, r, a, b, rfl, hl, hr, rfl⟩ | ⟨l, r, a, b, rfl, hl, hr, rfl⟩ | ⟨l, a, mn, mx, rfl, hl, hb, rfl⟩ | ⟨l, g, rfl, hl⟩
    · exact ⟨weighs_set f, by omega, by omega⟩
    · obtain ⟨h1, h2, h3⟩ := IsPart.facts n l a hl
      obtain ⟨k1, k2, k3⟩ := IsPart.facts n r b hr
      exact ⟨weighs_seq l r a b h1 k1 (by omega) h3 (by omega) k3, capW_bd (by omega)⟩
    · obtain ⟨h1, h2, h3⟩ := IsPart.facts n l a hl
      obtain ⟨k1, k2, k3⟩ := IsPart.facts n r b hr
      exact ⟨weighs_alt l r a b h1 k1 (by omega) h3 (by omega) k3, capW_bd (by omega)⟩
    · obtain ⟨h1, h2, h3⟩ := IsPart.facts n l a hl
      have hc := copies_bd hb
      exact ⟨weighs_rep l a mn mx h1 (by omega) h3 hb, capW_bd (Int.mul_le_mul h2 hc.1 (by omega) (by omega) |> fun h => by simpa using h)⟩
    · obtain ⟨h1, h2, h3⟩ := IsPart.facts n l wt hl
      exact ⟨weighs_grp l g wt h1, h2, h3⟩

theorem IsPart.mono : ∀ (n m : Nat) (v : Value) (wt : Int), n ≤ m → IsPart n v wt → IsPart m v wt
  | 0, _, _, _, _, h => h.elim
  | _ + 1, 0, _, _, hnm, _ => absurd hnm (Nat.not_succ_le_zero _)
  | n + 1, m + 1, v, wt, hnm, h => by
    have hnm' : n ≤ m := Nat.le_of_succ_le_succ hnm
    rcases h with ⟨f, rfl, rfl⟩ | ⟨l, r, a, b, rfl, hl, hr, rfl⟩ | ⟨l, r, a, b, rfl, hl, hr, rfl⟩ | ⟨l, a, mn, mx, rfl, hl, hb, rfl⟩ | ⟨l, g, rfl, hl⟩
    · exact .inl ⟨f, rfl, rfl⟩
    · exact .inr (.inl ⟨l, r, a, b, rfl, IsPart.mono n m l a hnm' hl, IsPart.mono n m r b hnm' hr, rfl⟩)
    · exact .inr (.inr (.inl ⟨l, r, a, b, rfl, IsPart.mono n m l a hnm' hl, IsPart.mono n m r b hnm' hr, rfl⟩))
    · exact .inr (.inr (.inr (.inl ⟨l, a, mn, mx, rfl, IsPart.mono n m l a hnm' hl, hb, rfl⟩)))
    · exact .inr (.inr (.inr (.inr ⟨l, g, rfl, IsPart.mono n m l wt hnm' hl⟩)))

theorem ret_iface {t : TypeId} {a b : Value} (h : a = b) : Ending.returned (.iface t a) = .returned (.iface t b) := by rw [h]

/-- Repeats at 1, 1 hand the part on. -/
theorem repeated_one (v : Value) (w : World) (t : TypeId) (x : Value) (hv : v = .iface t x) :
    Calls Tryz.prog 90 #[v, .int .i64 1, .int .i64 1] w fun e w' => e = .returned v ∧ Below w.heap.size w w' := by
  subst hv
  go_enter Tryz.func90, Tryz.ntmps90
  go_wp2
  go_ret
  exact ⟨rfl, Below.refl _ _⟩

def otherType (t : TypeId) (x : Value) : Prop := ∀ w, (Instr.typeAssert (.iface t x) 116 174 true).run Tryz.prog w = .ok (.tuple #[.agg #[.nilIface, .int .i64 0, .int .i64 0], .bool false]) w
theorem other_set (x : Value) : otherType 169 x := fun w => by kernel_rfl
theorem other_seq (x : Value) : otherType 161 x := fun w => by kernel_rfl
theorem other_alt (x : Value) : otherType 162 x := fun w => by kernel_rfl
theorem other_grp (x : Value) : otherType 165 x := fun w => by kernel_rfl
theorem same_rep (x : Value) (w : World) : (Instr.typeAssert (.iface 174 x) 116 174 true).run Tryz.prog w = .ok (.tuple #[x, .bool true]) w := by kernel_rfl

set_option maxRecDepth 100000 in
set_option maxHeartbeats 400000 in
theorem repeated_other (t : TypeId) (x : Value) (ho : otherType t x) (mn mx : Int) (w : World) (h1 : ¬ (mn = 1 ∧ mx = 1)) :
    Calls Tryz.prog 90 #[.iface t x, .int .i64 mn, .int .i64 mx] w fun e w' => e = .returned (.iface 174 (.agg #[.iface t x, .int .i64 mn, .int .i64 mx])) ∧ Below w.heap.size w w' := by
  unfold otherType at ho
  by_cases h : mn = 1
  · subst h
    have hb : (mx == 1) = false := beq_eq_false_iff_ne.2 (by simpa using h1)
    clear h1
    go_enter Tryz.func90, Tryz.ntmps90
    go_wp2
    go_ret
    exact ⟨rfl, ((Below.refl _ _).alloc (Nat.le_refl _) _).alloc (by simp) _⟩
  · have hb : (mn == 1) = false := beq_eq_false_iff_ne.2 h
    clear h h1
    go_enter Tryz.func90, Tryz.ntmps90
    go_wp2
    go_ret
    exact ⟨rfl, ((Below.refl _ _).alloc (Nat.le_refl _) _).alloc (by simp) _⟩

set_option maxRecDepth 100000 in
set_option maxHeartbeats 400000 in
theorem repeated_rep (t : TypeId) (x : Value) (imn imx mn mx : Int) (w : World) (h1 : ¬ (mn = 1 ∧ mx = 1)) :
    Calls Tryz.prog 90 #[.iface 174 (.agg #[.iface t x, .int .i64 imn, .int .i64 imx]), .int .i64 mn, .int .i64 mx] w fun e w' =>
      (e = .returned (if loose imn imx = true ∧ loose mn mx = true then .iface 174 (.agg #[.iface t x, .int .i64 0, .int .i64 (if imx ≤ mx then imx else mx)]) else .iface 174 (.agg #[.iface 174 (.agg #[.iface t x, .int .i64 imn, .int .i64 imx]), .int .i64 mn, .int .i64 mx]))) ∧ Below w.heap.size w w' := by
  have ho := same_rep
  have hsplit : (mn = 1 ∧ (mx == 1) = false) ∨ (mn == 1) = false := by
    by_cases h : mn = 1
    · exact .inl ⟨h, beq_eq_false_iff_ne.2 (fun e => h1 ⟨h, e⟩)⟩
    · exact .inr (beq_eq_false_iff_ne.2 h)
  clear h1
  by_cases hA : loose imn imx = true
  · by_cases hB : loose mn mx = true
    · rw [if_pos ⟨hA, hB⟩]
      have hmn : mn = 0 := by simp [loose] at hB; exact hB.1
      subst hmn
      clear hsplit
      by_cases hle : imx ≤ mx
      all_goals
        go_enter Tryz.func90, Tryz.ntmps90
        go_wp2_with fail
        refine (isLoose_ok _ imn imx _).mono ?_
        rintro e w2 ⟨rfl, hb2⟩
        obtain ⟨hcc, hff⟩ := bcell hb2
        have hbb := (((Below.refl w.heap.size w).alloc (Nat.le_refl _) _).alloc (by simp) _).trans (hb2.mono (by simp; omega))
        have hz := hb2.size
        clear hb2
        go_wp2_with fail
        refine (isLoose_ok _ 0 mx _).mono ?_
        rintro e w3 ⟨rfl, hb3⟩
        have hcc3 : ∀ b o, b < w.heap.size + 1 + 1 → w3.cell? ⟨b, o, none⟩ = w2.cell? ⟨b, o, none⟩ := fun b o hb => hb3.cell (p := ⟨b, o, none⟩) (Nat.lt_of_lt_of_le hb (by simpa using hz))
        have hbb3 := hbb.trans (hb3.mono (Nat.le_trans (by simp; omega) hz))
        clear hb3 hbb
        go_wp2
        go_ret
        exact ⟨rfl, hbb3⟩
    · rw [if_neg (fun h => hB h.2)]
      have hB' : loose mn mx = false := by simpa using hB
      clear hB
      rcases hsplit with ⟨rfl, hm⟩ | hm
      all_goals
        go_enter Tryz.func90, Tryz.ntmps90
        go_wp2_with fail
        refine (isLoose_ok _ imn imx _).mono ?_
        rintro e w2 ⟨rfl, hb2⟩
        obtain ⟨hcc, hff⟩ := bcell hb2
        have hbb := (((Below.refl w.heap.size w).alloc (Nat.le_refl _) _).alloc (by simp) _).trans (hb2.mono (by simp; omega))
        have hz := hb2.size
        clear hb2
        go_wp2_with fail
        refine (isLoose_ok _ _ mx _).mono ?_
        rintro e w3 ⟨rfl, hb3⟩
        have hcc3 : ∀ b o, b < w.heap.size + 1 + 1 → w3.cell? ⟨b, o, none⟩ = w2.cell? ⟨b, o, none⟩ := fun b o hb => hb3.cell (p := ⟨b, o, none⟩) (Nat.lt_of_lt_of_le hb (by simpa using hz))
        have hbb3 := hbb.trans (hb3.mono (Nat.le_trans (by simp; omega) hz))
        clear hb3 hbb
        go_wp2
        go_ret
        exact ⟨rfl, hbb3⟩
  · rw [if_neg (fun h => hA h.1)]
    have hA' : loose imn imx = false := by simpa using hA
    clear hA
    rcases hsplit with ⟨rfl, hm⟩ | hm
    all_goals
      go_enter Tryz.func90, Tryz.ntmps90
      go_wp2_with fail
      refine (isLoose_ok _ imn imx _).mono ?_
      rintro e w2 ⟨rfl, hb2⟩
      obtain ⟨hcc, hff⟩ := bcell hb2
      have hbb := (((Below.refl w.heap.size w).alloc (Nat.le_refl _) _).alloc (by simp) _).trans (hb2.mono (by simp; omega))
      clear hb2
      go_wp2
      go_ret
      exact ⟨rfl, hbb⟩

theorem loose_copies {mn mx : Int} (h : loose mn mx = true) : copies mn mx = 1 := by
  simp [loose] at h
  obtain ⟨rfl, h | h⟩ := h <;> subst h <;> rfl
theorem loose_min {imn imx mn mx : Int} (h1 : loose imn imx = true) (h2 : loose mn mx = true) : loose 0 (if imx ≤ mx then imx else mx) = true := by
  simp [loose] at *
  split <;> omega
theorem loose_bounds {mx : Int} (h : loose 0 mx = true) : boundsB 0 mx = true := by
  simp [loose] at h
  simp [boundsB]
  omega

theorem repeated_ok (n : Nat) (v : Value) (a mn mx : Int) (w : World) (hp : IsPart n v a) (hbd : boundsB mn mx = true) :
    Calls Tryz.prog 90 #[v, .int .i64 mn, .int .i64 mx] w fun e w' => ∃ t x, e = .returned (.iface t x) ∧ IsPart (n + 1) (.iface t x) (capW (a * copies mn mx)) ∧ Below w.heap.size w w' := by
  obtain ⟨_, ha1, ha2⟩ := IsPart.facts n v a hp
  by_cases h1 : mn = 1 ∧ mx = 1
  · obtain ⟨rfl, rfl⟩ := h1
    have hcp : capW (a * copies 1 1) = a := by rw [show copies 1 1 = 1 from rfl, Int.mul_one, capW_le ha2]
    rw [hcp]
    have hm := IsPart.mono n (n + 1) v a (Nat.le_succ n) hp
    have hv : ∃ t x, v = .iface t x := by
      cases n with
      | zero => exact hp.elim
      | succ n => rcases hp with ⟨f, rfl, rfl⟩ | ⟨l, r, a, b, rfl, hl, hr, rfl⟩ | ⟨l, r, a, b, rfl, hl, hr, rfl⟩ | ⟨l, a, mn, mx, rfl, hl, hb, rfl⟩ | ⟨l, g, rfl, hl⟩ <;> exact ⟨_, _, rfl⟩
    obtain ⟨t, x, rfl⟩ := hv
    exact (repeated_one _ w t x rfl).mono fun e w' h => ⟨t, x, h.1, hm, h.2⟩
  · cases n with
    | zero => exact hp.elim
    | succ n =>
      have hnew : ∀ t x, otherType t x → IsPart (n + 1) (.iface t x) a → Calls Tryz.prog 90 #[.iface t x, .int .i64 mn, .int .i64 mx] w fun e w' => ∃ t x, e = .returned (.iface t x) ∧ IsPart (n + 1 + 1) (.iface t x) (capW (a * copies mn mx)) ∧ Below w.heap.size w w' :=
        fun t x ho hq => (repeated_other t x ho mn mx w h1).mono fun e w' h => ⟨_, _, h.1, .inr (.inr (.inr (.inl ⟨_, a, mn, mx, rfl, hq, hbd, rfl⟩))), h.2⟩
      have hp' := hp
      rcases hp with ⟨f, rfl, rfl⟩ | ⟨l, r, a', b, rfl, hl, hr, rfl⟩ | ⟨l, r, a', b, rfl, hl, hr, rfl⟩ | ⟨l, a', imn, imx, rfl, hl, hb, rfl⟩ | ⟨l, g, rfl, hl⟩
      · exact hnew _ _ (other_set _) hp'
      · exact hnew _ _ (other_seq _) hp'
      · exact hnew _ _ (other_alt _) hp'
      · have hv : ∃ t x, l = .iface t x := by
          cases n with
          | zero => exact hl.elim
          | succ n => rcases hl with ⟨f, rfl, rfl⟩ | ⟨l, r, a, b, rfl, hl, hr, rfl⟩ | ⟨l, r, a, b, rfl, hl, hr, rfl⟩ | ⟨l, a, mn, mx, rfl, hl, hb, rfl⟩ | ⟨l, g, rfl, hl⟩ <;> exact ⟨_, _, rfl⟩
        obtain ⟨t, x, rfl⟩ := hv
        obtain ⟨_, hb1, hb2⟩ := IsPart.facts n _ _ hl
        refine (repeated_rep t x imn imx mn mx w h1).mono fun e w' h => ?_
        by_cases hc : loose imn imx = true ∧ loose mn mx = true
        · rw [if_pos hc] at h
          refine ⟨_, _, h.1, .inr (.inr (.inr (.inl ⟨_, a', 0, _, rfl, IsPart.mono n (n + 1) _ _ (Nat.le_succ n) hl, loose_bounds (loose_min hc.1 hc.2), ?_⟩))), h.2⟩
          rw [loose_copies hc.1, loose_copies hc.2, loose_copies (loose_min hc.1 hc.2), Int.mul_one, Int.mul_one, capW_le hb2, capW_le hb2]
        · rw [if_neg hc] at h
          exact ⟨_, _, h.1, .inr (.inr (.inr (.inl ⟨_, _, mn, mx, rfl, hp', hbd, rfl⟩))), h.2⟩
      · exact hnew _ _ (other_grp _) hp'
end Go.Proofs.YtgbdlgogccgciaaGreatDoor
