import Derived.Test.YthgaeaihfbiolaaDoorWrEWrF
namespace Go.Proofs.YthgaeaihfbiolaaDoor
open Go.RowKit
attribute [local go_sem ↓] Go.wp_at_zero Go.wp_at_succ

set_option maxRecDepth 100000 in
set_option maxHeartbeats 2000000 in
theorem copies_many (p : Pt) (ih : WrC p) (m e : Nat) (hme : e = m + 1) (he : m ≤ 255) (B n nw bt : Nat) (sv fv : Value) (mk : Nat → Nat) (f : Nat → Nat → Bool) (fr : Nat → Nat) (F : Nat → Nat → Nat) (w : World) (t : TypeId) (x : Value) (h : Trk B w n nw bt sv fv mk f fr F) (hT : TreeAt w (.iface t x) p) (hle : wPt p ≤ 2000) (hn : n + e * (wPt p).toNat ≤ 64 * nw) :
    Calls Tryd.prog 39 #[.pointer (some ⟨bt, 0, none⟩), .agg #[.iface t x, .int .i64 m, .int .i64 (-1)]] w fun r W => WrR B w n nw bt mk f fr F (e * (wPt p).toNat) (In (.rep p m (-1))) r W := by
  have hpos := bru_pos h.bru
  have hbt : bt < w.heap.size := (Array.getElem?_eq_some_iff.1 h.box).1
  have hbb := h.bb
  have hnw := h.nwl
  obtain ⟨W0, hW0⟩ : ∃ W0, (w.alloc (.cells #[.iface t x, .int .i64 m, .int .i64 (-1)] 91)).alloc (.cells #[.bool false, .slice none 0 0, .slice none 0 0] 50) = W0 := ⟨_, rfl⟩
  have hb0 : Below w.heap.size w W0 := by rw [← hW0]; exact ((Below.refl _ _).alloc (Nat.le_refl _) _).alloc (by simp) _
  have x0 : W0.heap[w.heap.size]? = some (.cells #[.iface t x, .int .i64 m, .int .i64 (-1)] 91 (0, 0)) := by rw [← hW0]; exact row_alloc (heap_alloc_new _ _)
  have x1 : W0.heap[w.heap.size + 1]? = some (.cells #[.bool false, .slice none 0 0, .slice none 0 0] 50 (0, 0)) := by rw [← hW0]; exact row_new2 _ _ _
  have hs0 := hb0.size
  have h0 := h.below hb0
  have hT0 := TreeAt.keep (.of hb0) p _ hT
  have hba := bare_ok nw bt true sv fv W0 h0.box hnw
  have Hmul : Hid (∀ a b : Nat, a + b ≤ e → a * (wPt p).toNat + b * (wPt p).toNat ≤ e * (wPt p).toNat) := fun a b hab => by rw [← Nat.add_mul]; exact Nat.mul_le_mul_right _ hab
  have Hme : Hid (e = m + 1) := hme
  have hm255 : m ≤ 255 := by omega
  clear hme
  go_enter Tryd.func39, Tryd.ntmps39
  go_wp2_with fail
  refine hba.mono ?_
  rintro e1 W1 ⟨ga, gl, rfl, na, nl, hfr, hb1⟩
  clear hba hW0
  obtain ⟨W2, hW2⟩ : ∃ W2, W1.alloc (.cells #[.bool true, .slice (some ⟨ga, 0, none⟩) nw nw, .slice (some ⟨gl, 0, none⟩) nw nw] 50) = W2 := ⟨_, rfl⟩
  have hb2 : Below W1.heap.size W1 W2 := by rw [← hW2]; exact (Below.refl _ _).alloc (Nat.le_refl _) _
  have r2 : W2.heap[W1.heap.size]? = some (.cells #[.bool true, .slice (some ⟨ga, 0, none⟩) nw nw, .slice (some ⟨gl, 0, none⟩) nw nw] 50 (0, 0)) := by rw [← hW2]; exact heap_alloc_new _ _
  have D0 := (WrD.bare h0 true na nl hfr hb1).below hb2
  have hs1 := hb1.size
  have y0 := D0.kp.typ _ _ _ x0 (by decide) (by decide) (by decide)
  obtain ⟨c0, c1, c2, -, -, -⟩ := row_threeF y0
  have Hn : Hid (n + e * (wPt p).toNat ≤ 64 * nw) := hn
  have hrW : W0.heap.size ≤ W1.heap.size := hs1
  have hp0 : 0 < W0.heap.size := by omega
  have hb02 : Below W0.heap.size W0 W2 := hb1.trans (hb2.mono hs1)
  have hone := Hmul.out 1 0 (by have := Hme.out; omega)
  have hc := ih B n nw bt sv fv mk f fr F W2 (.iface t x) (h0.below hb02) (TreeAt.keep (.of hb02) p _ hT0) hle (by omega)
  clear hn hs1 D0 hfr y0 hb1 hb2 na nl h h0 hT
  go_wp2_with fail
  refine hc.mono ?_
  rintro e3 W3 ⟨n1, ha, hl, c, sv3, fv3, mk3, f3, fr3, F3, A3, L3, rfl, hk3, D3⟩
  clear hc hW2 c0 c1 c2
  have r3 := D3.kp.typ _ _ _ r2 (by decide) (by decide) (by decide)
  have D3' := D3.start hb02 (by omega)
  obtain ⟨k0, k1, k2, f0, f1, f2⟩ := row_threeF r3
  obtain ⟨⟨sv4, fv4, mk4, f4, fr4, F4, A4, L4, q5⟩, q6⟩ := WrX.put3 ⟨_, _, _, _, _, _, _, _, D3'⟩ r3 hrW hp0 (.bool c) (.slice (some ⟨ha, 0, none⟩) nw nw) (.slice (some ⟨hl, 0, none⟩) nw nw)
  have hlk := star_ok2 q5
  obtain ⟨W4, hW4⟩ : ∃ W4, ((W3.setCell ⟨W1.heap.size, 0, none⟩ (.bool c)).setCell ⟨W1.heap.size, 1, none⟩ (.slice (some ⟨ha, 0, none⟩) nw nw)).setCell ⟨W1.heap.size, 2, none⟩ (.slice (some ⟨hl, 0, none⟩) nw nw) = W4 := ⟨_, rfl⟩
  rw [hW4] at hlk q6 q5
  have y4 := q5.kp.typ _ _ _ x0 (by decide) (by decide) (by decide)
  obtain ⟨d0, d1, d2, -, -, -⟩ := row_threeF q6
  clear D3 D3' r3 r2 q5
  go_wp2_with fail
  refine hlk.mono ?_
  rintro e5 W5 ⟨rfl, hX5, hKU⟩
  clear hlk hW4 k0 k1 k2 f0 f1 f2 d0 d1 d2
  have r5 := hKU _ _ _ q6 (by decide)
  have y5 := hKU _ _ _ y4 (by decide)
  obtain ⟨k0, -, -, f0, -, -⟩ := row_threeF r5
  have hX6 := hX5.putF (o := 0) (v := .bool true) r5 hrW hp0
  have r6 := heap_setCell_same _ _ 0 _ _ (.bool true) r5
  have y6 := hX6.kp.typ _ _ _ x0 (by decide) (by decide) (by decide)
  obtain ⟨-, c1, c2, -, -, -⟩ := row_threeF y6
  have hsub : (-1 : Int) - (m : Int) = -((m : Int) + 1) := by omega
  clear q6 y4 y5 hX5 hKU r5
  go_wp2
  generalize hW6 : W5.setCell ⟨W1.heap.size, 0, none⟩ (.bool true) = W6 at *
  clear hW6 k0 f0 c1 c2
  go_loopw [27] (fun i wr => i = .int .i64 0 ∧ wr = W6) (fun _ _ => 0)
  case atStart => exact ⟨rfl, rfl⟩
  case round =>
      obtain ⟨rfl, rfl⟩ := hrel
      have hneg : ¬ (0 : Int) < -((m : Int) + 1) := by omega
      have yk := hX6.kp.typ _ _ _ x0 (by decide) (by decide) (by decide)
      have c1 : wr.cell? ⟨w.heap.size, 1, none⟩ = some (.int .i64 m) := (row_threeF yk).2.1
      have hX2 : Cps B W0 n nw bt mk f fr F W1.heap.size (1 * (wPt p).toNat) (Ahead (In p) (fun u => ∃ k, Pow (In p) k u) 0) wr := ⟨n1, ha, hl, true, r6, by omega, hX6.words (fun u => ahead_zero (In p) (fun u => ∃ k, Pow (In p) k u) u)⟩
      clear yk
      go_wp2
      clear c1
      go_loopw [40] (fun i wr => ∃ k : Nat, k ≤ m ∧ i = .int .i64 k ∧ Cps B W0 n nw bt mk f fr F W1.heap.size ((1 + k) * (wPt p).toNat) (Ahead (In p) (fun u => ∃ k, Pow (In p) k u) k) wr)
        (fun i _ => m - (intOf i).toNat)
      case atStart => exact ⟨0, Nat.zero_le _, rfl, hX2⟩
      case round =>
        clear hX2
        obtain ⟨k, hk, rfl, n', ga', gl', b, hr, hn', hX'⟩ := hrel
        by_cases hlt : k < m
        · have Hj := Hmul.out (1 + k) 1 (by have := Hme.out; omega)
          have hw := cps_step ih hT0 hle hX' hr hn' (by have := Hn.out; omega)
          have yk := hX'.kp.typ _ _ _ x0 (by decide) (by decide) (by decide)
          have c0 : wr.cell? ⟨w.heap.size, 0, none⟩ = some (.iface t x) := (row_threeF yk).1
          obtain ⟨d0, d1, d2, -, -, -⟩ := row_threeF hr
          have hi0 : (0 : Int) ≤ (k : Int) := by omega
          have hi1 : (k : Int) < (m : Int) := by omega
          have Hj2 : Hid ((1 + k) * (wPt p).toNat + (wPt p).toNat = (1 + (k + 1)) * (wPt p).toNat) := by show _ = _; rw [← Nat.add_assoc, Nat.add_mul _ 1, Nat.one_mul]
          clear Hj hX' yk hr hn'
          go_wp2
          go_region_law ((first | (refine step_goE (by rfl) 21 #[.tmp 43, .tmp 45] #[44, 57] (by rfl) #[.pointer (some ⟨bt, 0, none⟩), .iface t x] (by simp [Act.eval]) _ (enterWrite _ _) hw ?_; rintro _ W4 ⟨n2, ha, hl, c, rfl, Hn2, ⟨z0, z1, z2⟩, HX, hsq⟩) | (refine step_go (by rfl) 38 #[.tmp 42, .tmp 46, .tmp 47] #[44, 50, 50] (by rfl) _ (by simp [Act.eval]) _ _ (enterSeq _ _) hsq ?_; rintro W5 ⟨D5, hKU⟩; have y0 := hKU _ _ _ HX.out (by decide); obtain ⟨k0, k1, k2, f0, f1, f2⟩ := row_threeF y0)))
          all_goals
            obtain ⟨q5, q6⟩ := D5.put3 y0 hrW hp0 (.bool (c && b)) (.slice (some ⟨ha, 0, none⟩) nw nw) (.slice (some ⟨gl', 0, none⟩) nw nw)
            clear hw hsq y0 hKU HX z0 z1 z2 d0 d1 d2 c0 D5 k0 k1 k2 f0 f1 f2
            generalize ((W5.setCell ⟨W1.heap.size, 0, none⟩ (.bool (c && b))).setCell ⟨W1.heap.size, 1, none⟩ (.slice (some ⟨ha, 0, none⟩) nw nw)).setCell ⟨W1.heap.size, 2, none⟩ (.slice (some ⟨gl', 0, none⟩) nw nw) = W6 at *
            go_wp2
            go_roundw
            case rel => exact ⟨k + 1, by omega, by go_num, n2, ha, gl', c && b, q6, by have := Hn2.out; have := Hj2.out; omega, q5.words (fun u => ahead_succ (In p) (fun u => ∃ k, Pow (In p) k u) k u)⟩
            case measure => simp [intOf]; omega
        · have hkm : k = m := by omega
          subst hkm
          obtain ⟨sv5, fv5, mk5, f5, fr5, F5, A5, L5, D⟩ := hX'
          have yk := D.kp.typ _ _ _ x1 (by decide) (by decide) (by decide)
          obtain ⟨k0, k1, k2, f0, f1, f2⟩ := row_threeF yk
          obtain ⟨d0, d1, d2, -, -, -⟩ := row_threeF hr
          have hret := ((D.start hb0 (by omega)).words (N := In (.rep p (k : Int) (-1))) (fun u => rep_many p k u)).ret (m := e * (wPt p).toNat) yk (by omega) hpos (by rw [Hme.out, Nat.add_comm k 1]; exact hn')
          clear D yk hr
          go_wp2
          exact bodyPost_ret (by simp [results, Tryd.results39, go_sem, k0, k1, k2]) rfl hret
end Go.Proofs.YthgaeaihfbiolaaDoor
namespace Go.Proofs.YthgaeaihfbiolaaDoor
open Go.RowKit
attribute [local go_sem ↓] Go.wp_at_zero Go.wp_at_succ

theorem WrR.wide {B : Nat} {w : World} {n nw bt : Nat} {mk : Nat → Nat} {f : Nat → Nat → Bool} {fr : Nat → Nat} {F : Nat → Nat → Nat} {k k' : Nat} {M : Word → Prop} {e : Ending} {W : World} (h : WrR B w n nw bt mk f fr F k M e W) (hk : k ≤ k') : WrR B w n nw bt mk f fr F k' M e W := by
  obtain ⟨n', ga, gl, b, sv, fv, mk', f', fr', F', A, L, h1, h2, h3⟩ := h
  exact ⟨n', ga, gl, b, sv, fv, mk', f', fr', F', A, L, h1, by omega, h3⟩

theorem copiesW_ok (p : Pt) (ih : WrC p) (mn mx : Int) (hbd : boundsB mn mx = true) (B n nw bt : Nat) (sv fv : Value) (mk : Nat → Nat) (f : Nat → Nat → Bool) (fr : Nat → Nat) (F : Nat → Nat → Nat) (w : World) (t : TypeId) (x : Value) (h : Trk B w n nw bt sv fv mk f fr F) (hT : TreeAt w (.iface t x) p) (hle : wPt (.rep p mn mx) ≤ 2000) (hn : n + (wPt (.rep p mn mx)).toNat ≤ 64 * nw) :
    Calls Tryd.prog 39 #[.pointer (some ⟨bt, 0, none⟩), .agg #[.iface t x, .int .i64 mn, .int .i64 mx]] w fun r W => WrR B w n nw bt mk f fr F (wPt (.rep p mn mx)).toNat (In (.rep p mn mx)) r W := by
  have hp1 := (wPt_bd p _ hT).1
  have hc := copies_bd hbd
  have e : wPt (.rep p mn mx) = capW (wPt p * copies mn mx) := rfl
  have hw : wPt (.rep p mn mx) = wPt p * copies mn mx := by
    rw [e] at hle ⊢
    unfold capW at hle ⊢
    split
    · rfl
    · rw [if_neg (by assumption)] at hle; omega
  rw [hw] at hle hn ⊢
  clear e hw
  obtain ⟨wb, hwb⟩ : ∃ wb : Nat, wPt p = wb := ⟨(wPt p).toNat, by omega⟩
  obtain ⟨c, hcc⟩ : ∃ c : Nat, copies mn mx = c := ⟨(copies mn mx).toNat, by omega⟩
  have htn : (wPt p).toNat = wb := by omega
  have hprod : wPt p * copies mn mx = ((c * wb : Nat) : Int) := by rw [hwb, hcc, Int.mul_comm]; simp
  rw [hprod] at hle hn ⊢
  rw [Int.toNat_natCast] at hn ⊢
  have hple : wPt p ≤ 2000 := by
    have h1 : 1 * wb ≤ c * wb := Nat.mul_le_mul_right _ (by omega)
    omega
  have hbd' := hbd
  simp [boundsB] at hbd'
  obtain ⟨⟨h1, h2⟩, h3⟩ := hbd'
  obtain ⟨m, rfl⟩ : ∃ m : Nat, mn = m := ⟨mn.toNat, by omega⟩
  by_cases hx : mx = -1
  · subst hx
    have hcm : c = m + 1 := by
      unfold copies at hcc
      rw [if_pos rfl] at hcc
      omega
    have := copies_many p ih m c hcm (by omega) B n nw bt sv fv mk f fr F w t x h hT hple (by rw [htn]; exact hn)
    rw [htn] at this
    exact this
  · obtain ⟨ee, rfl⟩ : ∃ ee : Nat, mx = ee := ⟨mx.toNat, by omega⟩
    have hce : ee ≤ c := by
      unfold copies at hcc
      rw [if_neg hx] at hcc
      split at hcc <;> omega
    have hmul : ee * wb ≤ c * wb := Nat.mul_le_mul_right _ hce
    have := copies_some p ih m (ee - m) ee (by omega) (by omega) B n nw bt sv fv mk f fr F w t x h hT hple (by rw [htn]; omega)
    rw [htn] at this
    exact this.mono fun e W hR => hR.wide hmul

set_option maxRecDepth 100000 in
set_option maxHeartbeats 1000000 in
theorem write_rep (p : Pt) (mn mx : Int) (ih : WrC p) : WrC (.rep p mn mx) := by
  intro B n nw bt sv fv mk f fr F w v h hT hle hn
  obtain ⟨lv, rfl, hl, hbd⟩ := hT
  have hpos := bru_pos h.bru
  have hbt : bt < w.heap.size := (Array.getElem?_eq_some_iff.1 h.box).1
  have hbb := h.bb
  obtain ⟨t, x, rfl⟩ := tree_iface hl
  obtain ⟨W0, hW0⟩ : ∃ W0, (w.alloc (.cells #[.bool false, .slice none 0 0, .slice none 0 0] 50)).alloc (.cells #[.iface t x, .int .i64 mn, .int .i64 mx] 91) = W0 := ⟨_, rfl⟩
  have hb0 : Below w.heap.size w W0 := by rw [← hW0]; exact ((Below.refl _ _).alloc (Nat.le_refl _) _).alloc (by simp) _
  have x0 : W0.heap[w.heap.size]? = some (.cells #[.bool false, .slice none 0 0, .slice none 0 0] 50 (0, 0)) := by rw [← hW0]; exact row_alloc (heap_alloc_new _ _)
  have x1 : W0.heap[w.heap.size + 1]? = some (.cells #[.iface t x, .int .i64 mn, .int .i64 mx] 91 (0, 0)) := by rw [← hW0]; exact row_new2 _ _ _
  obtain ⟨q0, q1, q2, -, -, -⟩ := row_threeF x1
  have hc := copiesW_ok p ih mn mx hbd B n nw bt sv fv mk f fr F W0 t x (h.below hb0) (TreeAt.keep (.of hb0) p _ hl) hle hn
  have a1 := no_rep_set
  have a2 := no_rep_seq
  have a3 := no_rep_alt
  have a4 := as_rep
  clear hle hn hbd
  go_enter Tryd.func21, Tryd.ntmps21
  go_wp2_with fail
  refine hc.mono ?_
  rintro e W ⟨n', ga, gl, b, sv', fv', mk', f', fr', F', A, L, rfl, hk, D⟩
  have u0 := D.kp.typ _ _ _ x0 (by decide) (by decide) (by decide)
  obtain ⟨k0, k1, k2, f0, f1, f2⟩ := row_threeF u0
  have hret := (D.start hb0 (by omega)).ret u0 (Nat.le_refl _) hpos hk
  clear hc hW0 D hk
  go_wp2
  exact bodyPost_ret (by simp [results, Tryd.results21, go_sem, k0, k1, k2]) rfl hret

/-- write, over every part. -/
theorem write_ok : ∀ p : Pt, WrC p
  | .set g => write_set g
  | .seq p q => write_seq p q (write_ok p) (write_ok q)
  | .alt p q => write_alt p q (write_ok p) (write_ok q)
  | .rep p mn mx => write_rep p mn mx (write_ok p)
  | .grp p g => write_grp p g (write_ok p)
end Go.Proofs.YthgaeaihfbiolaaDoor
