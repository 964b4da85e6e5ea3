import Derived.Test.YtgbdlgogccgciaaGreatDoorPeC
namespace Go.Proofs.YtgbdlgogccgciaaGreatDoor
open Go.RowKit
attribute [local go_sem ↓] Go.wp_at_zero Go.wp_at_succ

/- INTERVALS, THE SPECIFICATION's SIDE. -/
def intvV (at' : Nat) (o : Option (Int × Int × Nat)) : Value := match o with
  | some (m, n, k) => .tuple #[.int .i64 m, .int .i64 n, .int .i64 ((at' + 1 + k : Nat) : Int)]
  | none => .tuple #[.int .i64 0, .int .i64 0, .int .i64 (-1)]
theorem countF_bd {l : List UInt8} {n : Nat} (h : countF l = some n) : n ≤ 255 := by
  unfold countF at h
  split at h
  · rename_i hh; cases h; exact hh.2.2.2
  · cases h
theorem cut1_before {c : UInt8} {L inner r : List UInt8} {t : ByteArray} {a : Nat} (hL : t.data.toList.drop a = L) (h : cut1 c L = some (inner, r)) :
    a + inner.length < t.size ∧ (∀ hx : a + inner.length < t.size, t[a + inner.length] = c) ∧ (∀ x (hx : x < t.size), a ≤ x → x < a + inner.length → t[x] ≠ c) ∧ (t.extract a (a + inner.length)).data.toList = inner := by
  obtain ⟨e, hn⟩ := cut1_some h
  have hlen : t.data.toList.length = t.size := Array.length_toList
  have hl : (t.data.toList.drop a).length = inner.length + 1 + r.length := by rw [hL, e]; simp; omega
  rw [List.length_drop, hlen] at hl
  have hget : ∀ x (hx : x < t.size), a ≤ x → (t.data.toList.drop a)[x - a]? = some t[x] := fun x hx hax => by
    rw [List.getElem?_drop, show a + (x - a) = x by omega, List.getElem?_eq_getElem (by rw [hlen]; exact hx)]
    rfl
  refine ⟨by omega, fun hx => ?_, fun x hx h1 h2 => ?_, ?_⟩
  · have := hget (a + inner.length) hx (by omega)
    rw [hL, e, show a + inner.length - a = inner.length by omega] at this
    simpa using this.symm
  · have := hget x hx h1
    rw [hL, e, List.getElem?_append_left (by omega)] at this
    intro hc
    rw [hc] at this
    exact hn (List.mem_of_getElem? this)
  · rw [ext_list, hL, e, show a + inner.length - a = inner.length by omega]
    simp
theorem cut1_never {c : UInt8} {L : List UInt8} {t : ByteArray} {a : Nat} (hL : t.data.toList.drop a = L) (h : cut1 c L = none) : ∀ x (hx : x < t.size), a ≤ x → t[x] ≠ c := by
  intro x hx hax hc
  have hlen : t.data.toList.length = t.size := Array.length_toList
  refine cut1_none h ?_
  rw [← hL]
  have : (t.data.toList.drop a)[x - a]? = some t[x] := by
    rw [List.getElem?_drop, show a + (x - a) = x by omega, List.getElem?_eq_getElem (by rw [hlen]; exact hx)]
    rfl
  rw [hc] at this
  exact List.mem_of_getElem? this
theorem byte_ne {b c : UInt8} (h : b ≠ c) : (b.toNat : Int) ≠ (c.toNat : Int) := fun e => h (UInt8.toNat_inj.1 (by omega))

set_option maxRecDepth 100000 in
set_option maxHeartbeats 4000000 in
theorem l1Interval_none (t : ByteArray) (a : Nat) (w : World) (ha : a < t.size) (hb : (t[a].toNat : Int) = 123) (hsz : t.size ≤ 2000) (hN : cut1 125 (t.data.toList.drop (a + 1)) = none) :
    Calls Tryz.prog 22 #[.string t, .int .i64 (a : Int)] w fun e w' => e = .returned (intvV a (intervalF (t.data.toList.drop (a + 1)))) ∧ w' = w := by
  have HR : Hid (intvV a (intervalF (t.data.toList.drop (a + 1))) = .tuple #[.int .i64 0, .int .i64 0, .int .i64 (-1)]) := by
    show _ = _
    unfold intervalF
    rw [hN]
    rfl
  have hne : ∀ x (hx : x < t.size), a ≤ x → (t[x].toNat : Int) ≠ 125 := by
    intro x hx hax
    by_cases e : x = a
    · subst e; omega
    · exact byte_ne (c := 125) (cut1_never rfl hN x hx (by omega))
  go_enter Tryz.func22, Tryz.ntmps22
  go_wp2
  go_loop [7] (fun i => ∃ j : Nat, a ≤ j ∧ j ≤ t.size ∧ i = .int .i64 j) (fun i => t.size - (intOf i).toNat)
  case atStart => exact ⟨a, Nat.le_refl _, by omega, rfl⟩
  case round =>
    obtain ⟨j, haj, hj, rfl⟩ := hrel
    by_cases hlt : j < t.size
    · have h1 : (j : Int) < (t.size : Int) := by omega
      have hq := hne j hlt haj
      have hc : t[j].toNat < 256 := t[j].toNat_lt
      have hq2 : ((t[j].toNat : Int) != 125) = true := by simpa using hq
      go_wp2
      go_round
      case rel => exact ⟨j + 1, by omega, by omega, by go_num⟩
      case measure => simp [intOf]; omega
    · have hjj : j = t.size := by omega
      subst hjj
      have hq2 : ((t.size : Int) == (t.size : Int)) = true := by simp
      go_wp2
      refine bodyPost_ret (v := .tuple #[.int .i64 0, .int .i64 0, .int .i64 (-1)]) (by simp [results, Tryz.results22, go_sem]) rfl ?_
      exact ⟨by rw [HR.out], rfl⟩

set_option maxRecDepth 100000 in
set_option maxHeartbeats 4000000 in
theorem l1Interval_some (t : ByteArray) (a : Nat) (w : World) (ha : a < t.size) (hb : (t[a].toNat : Int) = 123) (hsz : t.size ≤ 2000) (inner r : List UInt8) (hN : cut1 125 (t.data.toList.drop (a + 1)) = some (inner, r)) :
    Calls Tryz.prog 22 #[.string t, .int .i64 (a : Int)] w fun e w' => e = .returned (intvV a (intervalF (t.data.toList.drop (a + 1)))) ∧ w' = w := by
  obtain ⟨b1, b2, b3, b4⟩ := cut1_before rfl hN
  have hIF : intervalF (t.data.toList.drop (a + 1)) = match cut1 44 inner with
    | none => match countF inner with
      | none => none
      | some m => some ((m : Int), (m : Int), inner.length + 1)
    | some (low, high) =>
      match countF low with
      | none => none
      | some m => if high = [] then some ((m : Int), -1, inner.length + 1)
        else match countF high with
          | none => none
          | some n => if m ≤ n then some ((m : Int), (n : Int), inner.length + 1) else none := by
    unfold intervalF
    rw [hN]
    rfl
  obtain ⟨E, hE⟩ : ∃ E, E = a + 1 + inner.length := ⟨_, rfl⟩
  rw [← hE] at b1 b2 b3 b4
  have hne : ∀ x (hx : x < t.size), a ≤ x → x < E → (t[x].toNat : Int) ≠ 125 := by
    intro x hx hax hxE
    by_cases e : x = a
    · subst e; omega
    · exact byte_ne (c := 125) (b3 x hx (by omega) hxE)
  have hEq : (t[E].toNat : Int) = 125 := by rw [b2 b1]; rfl
  obtain ⟨I, hI⟩ : ∃ I, I = t.extract (a + 1) E := ⟨_, rfl⟩
  have HI : Hid (I.data.toList = inner) := by show _ = _; rw [hI]; exact b4
  have hIs : I.size = inner.length := by rw [← HI.out]; exact Array.length_toList.symm
  have HIF : Hid _ := hIF
  have HE : Hid _ := hE
  have hEl : E = a + 1 + I.size := by rw [hIs]; exact hE
  have HII : Hid (t.extract (a + 1) E = I) := hI.symm
  clear b2 b3 b4 hIF hI hN hE hIs
  have hI2 : I.size ≤ 2000 := by omega
  have HEl : Hid _ := hEl
  have haE : a + 1 ≤ E := by omega
  clear hEl
  go_enter Tryz.func22, Tryz.ntmps22
  go_wp2
  go_loop [7] (fun i => ∃ j : Nat, a ≤ j ∧ j ≤ E ∧ i = .int .i64 j) (fun i => t.size - (intOf i).toNat)
  case atStart => exact ⟨a, Nat.le_refl _, by omega, rfl⟩
  case round =>
    obtain ⟨j, haj, hj, rfl⟩ := hrel
    by_cases hlt : j < E
    · have hjs : j < t.size := by omega
      have h1 : (j : Int) < (t.size : Int) := by omega
      have hq := hne j hjs haj hlt
      have hc : t[j].toNat < 256 := t[j].toNat_lt
      have hq2 : ((t[j].toNat : Int) != 125) = true := by simpa using hq
      go_wp2
      go_round
      case rel => exact ⟨j + 1, by omega, by omega, by go_num⟩
      case measure => simp [intOf]; omega
    · have hjj : j = E := by omega
      subst hjj
      have h1 : (j : Int) < (t.size : Int) := by omega
      have hq2 : ((j : Int) == (t.size : Int)) = false := by simp; omega
      have h0 : (0 : Int) ≤ (a : Int) + 1 := by omega
      have h2 : (a : Int) + 1 ≤ (j : Int) := by omega
      have h3 : (j : Int) ≤ (t.size : Int) := by omega
      have e1 : ((a : Int) + 1).toNat = a + 1 := by omega
      have eS : min j t.size - (a + 1) = I.size := by have := HEl.out; omega
      have HeS : Hid _ := eS
      clear eS
      go_wp2
      rw [HII.out, HeS.out]
      have hin : inner.length = I.size := by rw [← HI.out]; exact Array.length_toList
      have Hin : Hid _ := hin
      clear hin hlt hj hq2 h0 h2 h3 e1 hne hEq
      cases hC : cut1 44 inner with
      | none =>
        have hne2 : ∀ x (hx : x < I.size), (I[x].toNat : Int) ≠ 44 := fun x hx => byte_ne (c := 44) (cut1_never (t := I) (a := 0) (by rw [List.drop_zero]; exact HI.out) hC x hx (by omega))
        have hI3 := HIF.out
        rw [hC] at hI3
        have HIF2 : Hid _ := hI3
        clear hI3 HIF hC
        go_loop [9, 10] (fun cm i => ∃ (x : Nat) (z : Int), z = (x : Int) - 1 ∧ i = .int .i64 z ∧ x ≤ I.size ∧ cm = .int .i64 (-1)) (fun _ i => (intOf i + 1).toNat)
        case atStart => exact ⟨I.size, _, rfl, rfl, Nat.le_refl _, rfl⟩
        case round =>
          obtain ⟨x, z, hz, rfl, hx, rfl⟩ := hrel
          cases x with
          | succ y =>
            have hzy : z = (y : Int) := by omega
            subst hzy
            clear hz
            have hys : y < I.size := by omega
            have hyi : (y : Int) < (I.size : Int) := by omega
            have hc : I[y].toNat < 256 := I[y].toNat_lt
            have hq := hne2 y hys
            have hq2 : ((I[y].toNat : Int) == 44) = false := by simpa using hq
            go_wp2
            go_round
            case rel => exact ⟨y, _, rfl, rfl, by omega, rfl⟩
            case measure => simp [intOf]
          | zero =>
            have hz2 : z = -1 := by omega
            subst hz2
            clear hz
            go_wp2_with fail
            refine (l1Count_ok I _).mono ?_
            rintro e w' ⟨rfl, rfl⟩
            rw [HI.out]
            cases hm : countF inner with
            | none =>
              have HR : Hid (intvV a (intervalF (t.data.toList.drop (a + 1))) = .tuple #[.int .i64 0, .int .i64 0, .int .i64 (-1)]) := by
                show _ = _
                rw [HIF2.out, hm]
                rfl
              unfold optI
              go_wp2
              refine bodyPost_ret (v := .tuple #[.int .i64 0, .int .i64 0, .int .i64 (-1)]) (by simp [results, Tryz.results22, go_sem]) rfl ?_
              exact ⟨by rw [HR.out], rfl⟩
            | some m =>
              have HR : Hid (intvV a (intervalF (t.data.toList.drop (a + 1))) = .tuple #[.int .i64 (m : Int), .int .i64 (m : Int), .int .i64 ((j : Int) + 1)]) := by
                show _ = _
                rw [HIF2.out, hm]
                show Value.tuple #[_, _, .int .i64 ((a + 1 + (inner.length + 1) : Nat) : Int)] = _
                have := HE.out
                rw [show ((a + 1 + (inner.length + 1) : Nat) : Int) = (j : Int) + 1 by omega]
              have hmb := countF_bd hm
              unfold optI
              go_wp2
              refine bodyPost_ret (v := .tuple #[.int .i64 (m : Int), .int .i64 (m : Int), .int .i64 ((j : Int) + 1)]) (by simp [results, Tryz.results22, go_sem]) rfl ?_
              exact ⟨by rw [HR.out], rfl⟩
      | some q =>
        obtain ⟨low, high⟩ := q
        obtain ⟨d1, d2, d3, d4⟩ := cut1_before (t := I) (a := 0) (by rw [List.drop_zero]; exact HI.out) hC
        rw [Nat.zero_add] at d1 d2 d3 d4
        have hinn := (cut1_some hC).1
        have hI3 := HIF.out
        rw [hC] at hI3
        have HIF2 : Hid _ := hI3
        obtain ⟨cq, hcq⟩ : ∃ cq, cq = low.length := ⟨_, rfl⟩
        rw [← hcq] at d1 d2 d3 d4
        have hlen : I.size = cq + 1 + high.length := by rw [← Hin.out, hinn, hcq]; simp; omega
        have HX : Hid (I.extract 0 cq = ⟨low.toArray⟩ ∧ (I.extract 0 cq).data.toList = low) := ⟨bytes_of d4, d4⟩
        have HY : Hid ((I.extract (cq + 1) I.size).data.toList = high) := by
          show _ = _
          rw [ext_list, HI.out, hinn, hcq]
          rw [List.take_of_length_le (by simp; omega)]
          simp
        have hne2 : ∀ x (hx : x < I.size), x < cq → (I[x].toNat : Int) ≠ 44 := fun x hx hlt => byte_ne (c := 44) (d3 x hx (by omega) hlt)
        have hq0 : (I[cq].toNat : Int) = 44 := by rw [d2 d1]; rfl
        have Hlen : Hid _ := hlen
        clear hI3 HIF hC hlen d2 d3 d4 hinn hcq
        go_loop [9, 10] (fun cm i => ∃ (x : Nat) (z c : Int), z = (x : Int) - 1 ∧ i = .int .i64 z ∧ x ≤ I.size ∧ cm = .int .i64 c ∧ -1 ≤ c ∧ c ≤ 2000 ∧ (x ≤ cq → c = (cq : Int))) (fun _ i => (intOf i + 1).toNat)
        case atStart => exact ⟨I.size, _, -1, rfl, rfl, Nat.le_refl _, rfl, by omega, by omega, fun h => by omega⟩
        case round =>
          obtain ⟨x, z, c, hz, rfl, hx, rfl, hc0, hc1, hcc⟩ := hrel
          cases x with
          | succ y =>
            have hzy : z = (y : Int) := by omega
            subst hzy
            clear hz
            have hys : y < I.size := by omega
            have hyi : (y : Int) < (I.size : Int) := by omega
            have hcb : I[y].toNat < 256 := I[y].toNat_lt
            have Hcc : Hid _ := hcc
            clear hcc
            by_cases hq : (I[y].toNat : Int) = 44
            · have hyc : ¬y < cq := fun h => hne2 y hys h hq
              have hq2 : ((I[y].toNat : Int) == 44) = true := by simpa using hq
              go_wp2
              go_round
              case rel => exact ⟨y, _, (y : Int), rfl, rfl, by omega, rfl, by omega, by omega, fun h => by omega⟩
              case measure => simp [intOf]
            · have hyc : ¬y = cq := fun h => hq (by subst h; exact hq0)
              have hq2 : ((I[y].toNat : Int) == 44) = false := by simpa using hq
              go_wp2
              go_round
              case rel => exact ⟨y, _, c, rfl, rfl, by omega, rfl, by omega, by omega, fun h => Hcc.out (by omega)⟩
              case measure => simp [intOf]
          | zero =>
            have hz2 : z = -1 := by omega
            have hc2 : c = (cq : Int) := hcc (by omega)
            subst hz2 hc2
            clear hz hcc hc0 hc1
            have hcs : (cq : Int) ≤ (I.size : Int) := by omega
            go_wp2_with fail
            refine (l1Count_ok _ _).mono ?_
            rintro e w' ⟨rfl, rfl⟩
            rw [HX.out.2]
            cases hm : countF low with
            | none =>
              have HR : Hid (intvV a (intervalF (t.data.toList.drop (a + 1))) = .tuple #[.int .i64 0, .int .i64 0, .int .i64 (-1)]) := by
                show _ = _
                rw [HIF2.out, hm]
                rfl
              unfold optI
              go_wp2
              refine bodyPost_ret (v := .tuple #[.int .i64 0, .int .i64 0, .int .i64 (-1)]) (by simp [results, Tryz.results22, go_sem]) rfl ?_
              exact ⟨by rw [HR.out], rfl⟩
            | some m =>
              have hmb := countF_bd hm
              by_cases hh : high = []
              · have HR : Hid (intvV a (intervalF (t.data.toList.drop (a + 1))) = .tuple #[.int .i64 (m : Int), .int .i64 (-1), .int .i64 ((j : Int) + 1)]) := by
                  show _ = _
                  rw [HIF2.out, hm]
                  show intvV a (if high = [] then _ else _) = _
                  rw [if_pos hh]
                  show Value.tuple #[_, _, .int .i64 ((a + 1 + (inner.length + 1) : Nat) : Int)] = _
                  have := HE.out
                  rw [show ((a + 1 + (inner.length + 1) : Nat) : Int) = (j : Int) + 1 by omega]
                have hq3 : ((cq : Int) == (I.size : Int) - 1) = true := by
                  have := Hlen.out
                  rw [hh] at this
                  simp at this ⊢
                  omega
                unfold optI
                go_wp2
                refine bodyPost_ret (v := .tuple #[.int .i64 (m : Int), .int .i64 (-1), .int .i64 ((j : Int) + 1)]) (by simp [results, Tryz.results22, go_sem]) rfl ?_
                exact ⟨by rw [HR.out], rfl⟩
              · have hq3 : ((cq : Int) == (I.size : Int) - 1) = false := by
                  have := Hlen.out
                  have : 0 < high.length := List.length_pos_iff.2 hh
                  simp
                  omega
                have hcs2 : (cq : Int) + 1 ≤ (I.size : Int) := by omega
                have e1 : ((cq : Int) + 1).toNat = cq + 1 := by omega
                unfold optI
                go_wp2_with fail
                refine (l1Count_ok _ _).mono ?_
                rintro e w' ⟨rfl, rfl⟩
                rw [HY.out]
                cases hm2 : countF high with
                | none =>
                  have HR : Hid (intvV a (intervalF (t.data.toList.drop (a + 1))) = .tuple #[.int .i64 0, .int .i64 0, .int .i64 (-1)]) := by
                    show _ = _
                    rw [HIF2.out, hm]
                    show intvV a (if high = [] then _ else _) = _
                    rw [if_neg hh, hm2]
                    rfl
                  unfold optI
                  have hlt : (-1 : Int) < (m : Int) := by omega
                  go_wp2
                  refine bodyPost_ret (v := .tuple #[.int .i64 0, .int .i64 0, .int .i64 (-1)]) (by simp [results, Tryz.results22, go_sem]) rfl ?_
                  exact ⟨by rw [HR.out], rfl⟩
                | some n =>
                  have hnb := countF_bd hm2
                  unfold optI
                  by_cases hmn : m ≤ n
                  · have HR : Hid (intvV a (intervalF (t.data.toList.drop (a + 1))) = .tuple #[.int .i64 (m : Int), .int .i64 (n : Int), .int .i64 ((j : Int) + 1)]) := by
                      show _ = _
                      rw [HIF2.out, hm]
                      show intvV a (if high = [] then _ else _) = _
                      rw [if_neg hh, hm2]
                      show intvV a (if m ≤ n then _ else _) = _
                      rw [if_pos hmn]
                      show Value.tuple #[_, _, .int .i64 ((a + 1 + (inner.length + 1) : Nat) : Int)] = _
                      have := HE.out
                      rw [show ((a + 1 + (inner.length + 1) : Nat) : Int) = (j : Int) + 1 by omega]
                    have hlt : ¬(n : Int) < (m : Int) := by omega
                    go_wp2
                    refine bodyPost_ret (v := .tuple #[.int .i64 (m : Int), .int .i64 (n : Int), .int .i64 ((j : Int) + 1)]) (by simp [results, Tryz.results22, go_sem]) rfl ?_
                    exact ⟨by rw [HR.out], rfl⟩
                  · have HR : Hid (intvV a (intervalF (t.data.toList.drop (a + 1))) = .tuple #[.int .i64 0, .int .i64 0, .int .i64 (-1)]) := by
                      show _ = _
                      rw [HIF2.out, hm]
                      show intvV a (if high = [] then _ else _) = _
                      rw [if_neg hh, hm2]
                      show intvV a (if m ≤ n then _ else _) = _
                      rw [if_neg hmn]
                      rfl
                    have hlt : (n : Int) < (m : Int) := by omega
                    go_wp2
                    refine bodyPost_ret (v := .tuple #[.int .i64 0, .int .i64 0, .int .i64 (-1)]) (by simp [results, Tryz.results22, go_sem]) rfl ?_
                    exact ⟨by rw [HR.out], rfl⟩
theorem l1Interval_ok (t : ByteArray) (a : Nat) (w : World) (ha : a < t.size) (hb : (t[a].toNat : Int) = 123) (hsz : t.size ≤ 2000) :
    Calls Tryz.prog 22 #[.string t, .int .i64 (a : Int)] w fun e w' => e = .returned (intvV a (intervalF (t.data.toList.drop (a + 1)))) ∧ w' = w := by
  cases hN : cut1 125 (t.data.toList.drop (a + 1)) with
  | none => exact l1Interval_none t a w ha hb hsz hN
  | some q => exact l1Interval_some t a w ha hb hsz q.1 q.2 hN
end Go.Proofs.YtgbdlgogccgciaaGreatDoor
