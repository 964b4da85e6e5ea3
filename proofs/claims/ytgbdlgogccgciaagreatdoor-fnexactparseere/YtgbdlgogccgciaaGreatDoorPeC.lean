import Derived.Test.YtgbdlgogccgciaaGreatDoorTxBBtwRowPeAPeB
namespace Go.Proofs.YtgbdlgogccgciaaGreatDoor
open Go.RowKit
attribute [local go_sem ↓] Go.wp_at_zero Go.wp_at_succ

/- NAMED CLASSES, THE SPECIFICATION's SIDE. -/
def classB (n : List UInt8) (c : Nat) : Bool := match classF n with | some f => f c | none => false
theorem decide_or (p q : Prop) [Decidable p] [Decidable q] : (decide p || decide q) = decide (p ∨ q) := by by_cases hp : p <;> simp [hp]
theorem classAlpha (c : Nat) : classB nAlpha c = (btw c 65 90 || btw c 97 122) := by
  unfold classB classF
  rw [if_pos rfl]
  rfl
theorem classDigit (c : Nat) : classB nDigit c = (btw c 48 57) := by
  unfold classB classF
  rw [if_neg (by decide), if_pos rfl]
  rfl
theorem classAlnum (c : Nat) : classB nAlnum c = (btw c 65 90 || btw c 97 122 || btw c 48 57) := by
  unfold classB classF
  rw [if_neg (by decide), if_neg (by decide), if_pos rfl]
  rfl
theorem classUpper (c : Nat) : classB nUpper c = (btw c 65 90) := by
  unfold classB classF
  rw [if_neg (by decide), if_neg (by decide), if_neg (by decide), if_pos rfl]
  rfl
theorem classLower (c : Nat) : classB nLower c = (btw c 97 122) := by
  unfold classB classF
  rw [if_neg (by decide), if_neg (by decide), if_neg (by decide), if_neg (by decide), if_pos rfl]
  rfl
theorem classSpace (c : Nat) : classB nSpace c = (btw c 9 13 || decide ((c : Int) = 32)) := by
  unfold classB classF
  rw [if_neg (by decide), if_neg (by decide), if_neg (by decide), if_neg (by decide), if_neg (by decide), if_pos rfl]
  show (decide _ || decide _) = _
  rw [Bool.eq_iff_iff]
  simp [btw]
  omega
theorem classBlank (c : Nat) : classB nBlank c = (decide ((c : Int) = 9) || decide ((c : Int) = 32)) := by
  unfold classB classF
  rw [if_neg (by decide), if_neg (by decide), if_neg (by decide), if_neg (by decide), if_neg (by decide), if_neg (by decide), if_pos rfl]
  show (decide _ || decide _) = _
  rw [Bool.eq_iff_iff]
  simp
  omega
theorem classPunct (c : Nat) : classB nPunct c = (btw c 33 126 && !btw c 65 90 && !btw c 97 122 && !btw c 48 57) := by
  unfold classB classF
  rw [if_neg (by decide), if_neg (by decide), if_neg (by decide), if_neg (by decide), if_neg (by decide), if_neg (by decide), if_neg (by decide), if_pos rfl]
  show (((decide _ || decide _) || decide _) || decide _) = _
  rw [Bool.eq_iff_iff]
  simp [btw]
  omega
theorem classXdigit (c : Nat) : classB nXdigit c = (btw c 48 57 || btw c 65 70 || btw c 97 102) := by
  unfold classB classF
  rw [if_neg (by decide), if_neg (by decide), if_neg (by decide), if_neg (by decide), if_neg (by decide), if_neg (by decide), if_neg (by decide), if_neg (by decide), if_pos rfl]
  rfl
theorem classNone {n : List UInt8} (c : Nat) (h0 : ¬n = nAlpha) (h1 : ¬n = nDigit) (h2 : ¬n = nAlnum) (h3 : ¬n = nUpper) (h4 : ¬n = nLower) (h5 : ¬n = nSpace) (h6 : ¬n = nBlank) (h7 : ¬n = nPunct) (h8 : ¬n = nXdigit) : classB n c = false := by
  unfold classB classF
  rw [if_neg h0, if_neg h1, if_neg h2, if_neg h3, if_neg h4, if_neg h5, if_neg h6, if_neg h7, if_neg h8]
theorem name_yes {t : ByteArray} {n : List UInt8} (h : t.data.toList = n) : (t.toList == n) = true := by rw [toList_eq, h]; exact beq_self_eq_true n
theorem name_no {t : ByteArray} {n : List UInt8} (h : ¬t.data.toList = n) : (t.toList == n) = false := by rw [toList_eq]; exact beq_eq_false_iff_ne.2 h
set_option maxRecDepth 100000 in
set_option maxHeartbeats 4000000 in
theorem l1InClass_ok (t : ByteArray) (c : Nat) (ci : Int) (w : World) (hci : ci = c) :
    Calls Tryz.prog 44 #[.string t, .int .i64 ci] w fun e w' => e = .returned (.bool (classB t.data.toList c)) ∧ w' = w := by
  subst hci
  go_enter Tryz.func44, Tryz.ntmps44
  go_wp2_with fail
  refine (between_ok _ _ _ _).mono ?_
  rintro e w' ⟨rfl, rfl⟩
  go_wp2_with fail
  refine (between_ok _ _ _ _).mono ?_
  rintro e w' ⟨rfl, rfl⟩
  go_wp2_with fail
  refine (between_ok _ _ _ _).mono ?_
  rintro e w' ⟨rfl, rfl⟩
  by_cases z0 : t.data.toList = nAlpha
  · have HV : Hid (classB t.data.toList c = (btw c 65 90 || btw c 97 122)) := by show _ = _; rw [z0]; exact classAlpha c
    have q0 : (t.toList == [97, 108, 112, 104, 97]) = true := name_yes z0
    clear z0
    cases hu : btw (c : Int) 65 90 <;> cases hl : btw (c : Int) 97 122 <;> cases hd : btw (c : Int) 48 57
    all_goals
      go_wp2
      go_ret
      exact ⟨ret_bool (by have := HV.out; rw [hu, hl] at this; exact this.symm), rfl⟩
  have q0 : (t.toList == [97, 108, 112, 104, 97]) = false := name_no z0
  by_cases z1 : t.data.toList = nDigit
  · have HV : Hid (classB t.data.toList c = (btw c 48 57)) := by show _ = _; rw [z1]; exact classDigit c
    have q1 : (t.toList == [100, 105, 103, 105, 116]) = true := name_yes z1
    clear z1
    cases hu : btw (c : Int) 65 90 <;> cases hl : btw (c : Int) 97 122 <;> cases hd : btw (c : Int) 48 57
    all_goals
      go_wp2
      go_ret
      exact ⟨ret_bool (by have := HV.out; rw [hd] at this; exact this.symm), rfl⟩
  have q1 : (t.toList == [100, 105, 103, 105, 116]) = false := name_no z1
  by_cases z2 : t.data.toList = nAlnum
  · have HV : Hid (classB t.data.toList c = (btw c 65 90 || btw c 97 122 || btw c 48 57)) := by show _ = _; rw [z2]; exact classAlnum c
    have q2 : (t.toList == [97, 108, 110, 117, 109]) = true := name_yes z2
    clear z2
    cases hu : btw (c : Int) 65 90 <;> cases hl : btw (c : Int) 97 122 <;> cases hd : btw (c : Int) 48 57
    all_goals
      go_wp2
      go_ret
      exact ⟨ret_bool (by have := HV.out; rw [hu, hl, hd] at this; exact this.symm), rfl⟩
  have q2 : (t.toList == [97, 108, 110, 117, 109]) = false := name_no z2
  by_cases z3 : t.data.toList = nUpper
  · have HV : Hid (classB t.data.toList c = (btw c 65 90)) := by show _ = _; rw [z3]; exact classUpper c
    have q3 : (t.toList == [117, 112, 112, 101, 114]) = true := name_yes z3
    clear z3
    cases hu : btw (c : Int) 65 90 <;> cases hl : btw (c : Int) 97 122 <;> cases hd : btw (c : Int) 48 57
    all_goals
      go_wp2
      go_ret
      exact ⟨ret_bool (by have := HV.out; rw [hu] at this; exact this.symm), rfl⟩
  have q3 : (t.toList == [117, 112, 112, 101, 114]) = false := name_no z3
  by_cases z4 : t.data.toList = nLower
  · have HV : Hid (classB t.data.toList c = (btw c 97 122)) := by show _ = _; rw [z4]; exact classLower c
    have q4 : (t.toList == [108, 111, 119, 101, 114]) = true := name_yes z4
    clear z4
    cases hu : btw (c : Int) 65 90 <;> cases hl : btw (c : Int) 97 122 <;> cases hd : btw (c : Int) 48 57
    all_goals
      go_wp2
      go_ret
      exact ⟨ret_bool (by have := HV.out; rw [hl] at this; exact this.symm), rfl⟩
  have q4 : (t.toList == [108, 111, 119, 101, 114]) = false := name_no z4
  by_cases z5 : t.data.toList = nSpace
  · have HV : Hid (classB t.data.toList c = (btw c 9 13 || decide ((c : Int) = 32))) := by show _ = _; rw [z5]; exact classSpace c
    have q5 : (t.toList == [115, 112, 97, 99, 101]) = true := name_yes z5
    clear z5
    go_wp2_with fail
    refine (between_ok _ _ _ _).mono ?_
    rintro e w' ⟨rfl, rfl⟩
    cases hs : btw (c : Int) 9 13 <;> by_cases h32 : (c : Int) = 32
    all_goals
      go_wp2
      go_ret
      exact ⟨ret_bool (by have := HV.out; first | (rw [hs, decide_eq_true h32] at this; exact this.symm) | (rw [hs, decide_eq_false h32] at this; exact this.symm) | (rw [hs, decide_eq_false h32] at this; rw [this]; exact beq_eq_false_iff_ne.2 h32)), rfl⟩
  have q5 : (t.toList == [115, 112, 97, 99, 101]) = false := name_no z5
  by_cases z6 : t.data.toList = nBlank
  · have HV : Hid (classB t.data.toList c = (decide ((c : Int) = 9) || decide ((c : Int) = 32))) := by show _ = _; rw [z6]; exact classBlank c
    have q6 : (t.toList == [98, 108, 97, 110, 107]) = true := name_yes z6
    clear z6
    by_cases h9 : (c : Int) = 9 <;> by_cases h32 : (c : Int) = 32
    all_goals
      go_wp2
      go_ret
      exact ⟨ret_bool (by have := HV.out; first | (rw [decide_eq_true h9] at this; exact this.symm) | (rw [decide_eq_false h9, decide_eq_true h32] at this; exact this.symm) | (rw [decide_eq_false h9, decide_eq_false h32] at this; exact this.symm) | (rw [decide_eq_false h9, decide_eq_false h32] at this; rw [this, beq_eq_false_iff_ne.2 h9, beq_eq_false_iff_ne.2 h32])), rfl⟩
  have q6 : (t.toList == [98, 108, 97, 110, 107]) = false := name_no z6
  by_cases z7 : t.data.toList = nPunct
  · have HV : Hid (classB t.data.toList c = (btw c 33 126 && !btw c 65 90 && !btw c 97 122 && !btw c 48 57)) := by show _ = _; rw [z7]; exact classPunct c
    have q7 : (t.toList == [112, 117, 110, 99, 116]) = true := name_yes z7
    clear z7
    go_wp2_with fail
    refine (between_ok _ _ _ _).mono ?_
    rintro e w' ⟨rfl, rfl⟩
    cases hp : btw (c : Int) 33 126 <;> cases hu : btw (c : Int) 65 90 <;> cases hl : btw (c : Int) 97 122 <;> cases hd : btw (c : Int) 48 57
    all_goals
      go_wp2
      go_ret
      exact ⟨ret_bool (by have := HV.out; rw [hp, hu, hl, hd] at this; exact this.symm), rfl⟩
  have q7 : (t.toList == [112, 117, 110, 99, 116]) = false := name_no z7
  by_cases z8 : t.data.toList = nXdigit
  · have HV : Hid (classB t.data.toList c = (btw c 48 57 || btw c 65 70 || btw c 97 102)) := by show _ = _; rw [z8]; exact classXdigit c
    have q8 : (t.toList == [120, 100, 105, 103, 105, 116]) = true := name_yes z8
    clear z8
    cases hd : btw (c : Int) 48 57
    · go_wp2_with fail
      refine (between_ok _ _ _ _).mono ?_
      rintro e w' ⟨rfl, rfl⟩
      cases hu : btw (c : Int) 65 70
      · go_wp2_with fail
        refine (between_ok _ _ _ _).mono ?_
        rintro e w' ⟨rfl, rfl⟩
        go_wp2
        go_ret
        exact ⟨ret_bool (by have := HV.out; rw [hd, hu] at this; exact this.symm), rfl⟩
      · go_wp2
        go_ret
        exact ⟨ret_bool (by have := HV.out; rw [hd, hu] at this; exact this.symm), rfl⟩
    · go_wp2
      go_ret
      exact ⟨ret_bool (by have := HV.out; rw [hd] at this; exact this.symm), rfl⟩
  have q8 : (t.toList == [120, 100, 105, 103, 105, 116]) = false := name_no z8
  have HV : Hid (classB t.data.toList c = false) := classNone c z0 z1 z2 z3 z4 z5 z6 z7 z8
  clear z0 z1 z2 z3 z4 z5 z6 z7 z8
  go_wp2
  go_ret
  exact ⟨ret_bool HV.out.symm, rfl⟩
end Go.Proofs.YtgbdlgogccgciaaGreatDoor
