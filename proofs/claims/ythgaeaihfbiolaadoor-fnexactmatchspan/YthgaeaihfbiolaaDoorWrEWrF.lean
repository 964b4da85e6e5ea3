import Derived.Test.YthgaeaihfbiolaaDoorWrB
namespace Go.Proofs.YthgaeaihfbiolaaDoor
open Go.RowKit
attribute [local go_sem ↓] Go.wp_at_zero Go.wp_at_succ

/-- Where writing copies stands. -/
def Cps (B : Nat) (w : World) (n nw bt : Nat) (mk : Nat → Nat) (f : Nat → Nat → Bool) (fr : Nat → Nat) (F : Nat → Nat → Nat) (r N : Nat) (M : Word → Prop) (W : World) : Prop :=
  ∃ (n' ga gl : Nat) (b : Bool), W.heap[r]? = some (.cells #[.bool b, .slice (some ⟨ga, 0, none⟩) nw nw, .slice (some ⟨gl, 0, none⟩) nw nw] 50 (0, 0)) ∧ n' ≤ n + N ∧ WrX B w n nw bt mk f fr F W n' ga gl b M
theorem WrX.putF {B : Nat} {w W : World} {n nw bt : Nat} {mk : Nat → Nat} {f : Nat → Nat → Bool} {fr : Nat → Nat} {F : Nat → Nat → Nat} {n' ga gl : Nat} {b : Bool} {M : Word → Prop} {k o : Nat} {v : Value} {cs : Array Value}
    (h : WrX B w n nw bt mk f fr F W n' ga gl b M) (hb : W.heap[k]? = some (.cells cs 50 (0, 0))) (h0 : w.heap.size ≤ k) (h1 : 0 < w.heap.size) : WrX B w n nw bt mk f fr F (W.setCell ⟨k, o, none⟩ v) n' ga gl b M := by
  obtain ⟨sv, fv, mk', f', fr', F', A, L, D⟩ := h
  exact ⟨sv, fv, mk', f', fr', F', A, L, D.putF hb h0 h1⟩
theorem WrX.opt {B : Nat} {w W : World} {n nw bt : Nat} {mk : Nat → Nat} {f : Nat → Nat → Bool} {fr : Nat → Nat} {F : Nat → Nat → Nat} {n' ga gl : Nat} {b : Bool} {M : Word → Prop}
    (h : WrX B w n nw bt mk f fr F W n' ga gl b M) : WrX B w n nw bt mk f fr F W n' ga gl true (fun u => u = [] ∨ M u) := by
  obtain ⟨sv, fv, mk', f', fr', F', A, L, D⟩ := h
  exact ⟨sv, fv, mk', f', fr', F', A, L, D.opt⟩
theorem WrX.words {B : Nat} {w W : World} {n nw bt : Nat} {mk : Nat → Nat} {f : Nat → Nat → Bool} {fr : Nat → Nat} {F : Nat → Nat → Nat} {n' ga gl : Nat} {b : Bool} {M N : Word → Prop}
    (h : WrX B w n nw bt mk f fr F W n' ga gl b M) (hl : ∀ u, M u ↔ N u) : WrX B w n nw bt mk f fr F W n' ga gl b N := by
  obtain ⟨sv, fv, mk', f', fr', F', A, L, D⟩ := h
  exact ⟨sv, fv, mk', f', fr', F', A, L, D.words hl⟩
theorem WrX.kp {B : Nat} {w W : World} {n nw bt : Nat} {mk : Nat → Nat} {f : Nat → Nat → Bool} {fr : Nat → Nat} {F : Nat → Nat → Nat} {n' ga gl : Nat} {b : Bool} {M : Word → Prop}
    (h : WrX B w n nw bt mk f fr F W n' ga gl b M) : Kp B w W := by
  obtain ⟨sv, fv, mk', f', fr', F', A, L, D⟩ := h
  exact D.kp
/-- A fragment stored whole. -/
theorem WrX.put3 {B : Nat} {w W : World} {n nw bt : Nat} {mk : Nat → Nat} {f : Nat → Nat → Bool} {fr : Nat → Nat} {F : Nat → Nat → Nat} {n' ga gl : Nat} {b : Bool} {M : Word → Prop} {k : Nat} {x y z : Value}
    (h : WrX B w n nw bt mk f fr F W n' ga gl b M) (hb : W.heap[k]? = some (.cells #[x, y, z] 50 (0, 0))) (h0 : w.heap.size ≤ k) (h1 : 0 < w.heap.size) (v0 v1 v2 : Value) :
    WrX B w n nw bt mk f fr F (((W.setCell ⟨k, 0, none⟩ v0).setCell ⟨k, 1, none⟩ v1).setCell ⟨k, 2, none⟩ v2) n' ga gl b M ∧ (((W.setCell ⟨k, 0, none⟩ v0).setCell ⟨k, 1, none⟩ v1).setCell ⟨k, 2, none⟩ v2).heap[k]? = some (.cells #[v0, v1, v2] 50 (0, 0)) := by
  have r1 := heap_setCell_same _ _ 0 _ _ v0 hb
  have r2 := heap_setCell_same _ _ 1 _ _ v1 r1
  have r3 := heap_setCell_same _ _ 2 _ _ v2 r2
  exact ⟨((h.putF hb h0 h1).putF r1 h0 h1).putF r2 h0 h1, r3⟩

/-- One copy more, ahead of the rest. -/
def CpStep (B : Nat) (w : World) (n nw bt : Nat) (mk : Nat → Nat) (f : Nat → Nat → Bool) (fr : Nat → Nat) (F : Nat → Nat → Nat) (r N ga gl : Nat) (b : Bool) (p : Pt) (M : Word → Prop) (v : Value) (W : World) : Prop :=
  ∃ (n2 ha hl : Nat) (c : Bool), v = .agg #[.bool c, .slice (some ⟨ha, 0, none⟩) nw nw, .slice (some ⟨hl, 0, none⟩) nw nw] ∧ Hid (n2 ≤ n + (N + (wPt p).toNat)) ∧ (W.cell? ⟨r, 0, none⟩ = some (.bool b) ∧ W.cell? ⟨r, 1, none⟩ = some (.slice (some ⟨ga, 0, none⟩) nw nw) ∧ W.cell? ⟨r, 2, none⟩ = some (.slice (some ⟨gl, 0, none⟩) nw nw)) ∧ Hid (W.heap[r]? = some (.cells #[.bool b, .slice (some ⟨ga, 0, none⟩) nw nw, .slice (some ⟨gl, 0, none⟩) nw nw] 50 (0, 0))) ∧
    Calls Tryd.prog 38 #[.pointer (some ⟨bt, 0, none⟩), .agg #[.bool c, .slice (some ⟨ha, 0, none⟩) nw nw, .slice (some ⟨hl, 0, none⟩) nw nw], .agg #[.bool b, .slice (some ⟨ga, 0, none⟩) nw nw, .slice (some ⟨gl, 0, none⟩) nw nw]] W fun e W5 => e = .returned (.agg #[.bool (c && b), .slice (some ⟨ha, 0, none⟩) nw nw, .slice (some ⟨gl, 0, none⟩) nw nw]) ∧ WrX B w n nw bt mk f fr F W5 n2 ha gl (c && b) (fun u => ∃ x y, u = x ++ y ∧ In p x ∧ M y) ∧ KU W W5
theorem cps_step {B : Nat} {w W : World} {n nw bt : Nat} {mk : Nat → Nat} {f : Nat → Nat → Bool} {fr : Nat → Nat} {F : Nat → Nat → Nat} {r N n' ga gl : Nat} {b : Bool} {p : Pt} {M : Word → Prop} {v : Value} (ih : WrC p) (hT : TreeAt w v p) (hle : wPt p ≤ 2000)
    (hX : WrX B w n nw bt mk f fr F W n' ga gl b M) (hr : W.heap[r]? = some (.cells #[.bool b, .slice (some ⟨ga, 0, none⟩) nw nw, .slice (some ⟨gl, 0, none⟩) nw nw] 50 (0, 0))) (hn : n' ≤ n + N) (hN : n + (N + (wPt p).toNat) ≤ 64 * nw) :
    Calls Tryd.prog 21 #[.pointer (some ⟨bt, 0, none⟩), v] W.drew fun e W4 => ∃ v, e = .returned v ∧ CpStep B w n nw bt mk f fr F r N ga gl b p M v W4 := by
  obtain ⟨sv, fv, mk', f', fr', F', A, L, D⟩ := hX
  have hb : Below W.heap.size W W.drew := (Below.refl _ _).drew
  refine (ih B n' nw bt sv fv mk' f' fr' F' W.drew v (D.tk.below hb) (TreeAt.keep (.of hb) p _ (TreeAt.keep D.kp.keepM p _ hT)) hle (by omega)).mono ?_
  rintro e W4 ⟨n2, ha, hl, c, sv2, fv2, mk2, f2, fr2, F2, A', L', rfl, hk2, D2⟩
  have hr4 := D2.kp.typ r _ _ hr (by decide) (by decide) (by decide)
  obtain ⟨z0, z1, z2, -, -, -⟩ := row_threeF hr4
  exact ⟨_, rfl, n2, ha, hl, c, rfl, by show n2 ≤ _; omega, ⟨z0, z1, z2⟩, hr4, seq_ok2 (D.pair hb D2).swap⟩
end Go.Proofs.YthgaeaihfbiolaaDoor
namespace Go.Proofs.YthgaeaihfbiolaaDoor
open Go.RowKit
attribute [local go_sem ↓] Go.wp_at_zero Go.wp_at_succ

set_option maxRecDepth 100000 in
set_option maxHeartbeats 2000000 in
theorem copies_some (p : Pt) (ih : WrC p) (m d e : Nat) (hme : e = m + d) (he : e ≤ 255) (B n nw bt : Nat) (sv fv : Value) (mk : Nat → Nat) (f : Nat → Nat → Bool) (fr : Nat → Nat) (F : Nat → Nat → Nat) (w : World) (t : TypeId) (x : Value) (h : Trk B w n nw bt sv fv mk f fr F) (hT : TreeAt w (.iface t x) p) (hle : wPt p ≤ 2000) (hn : n + e * (wPt p).toNat ≤ 64 * nw) :
    Calls Tryd.prog 39 #[.pointer (some ⟨bt, 0, none⟩), .agg #[.iface t x, .int .i64 m, .int .i64 e]] w fun r W => WrR B w n nw bt mk f fr F (e * (wPt p).toNat) (In (.rep p m e)) r W := by
  have hpos := bru_pos h.bru
  have hbt : bt < w.heap.size := (Array.getElem?_eq_some_iff.1 h.box).1
  have hbb := h.bb
  have hnw := h.nwl
  obtain ⟨W0, hW0⟩ : ∃ W0, (w.alloc (.cells #[.iface t x, .int .i64 m, .int .i64 e] 91)).alloc (.cells #[.bool false, .slice none 0 0, .slice none 0 0] 50) = W0 := ⟨_, rfl⟩
  have hb0 : Below w.heap.size w W0 := by rw [← hW0]; exact ((Below.refl _ _).alloc (Nat.le_refl _) _).alloc (by simp) _
  have x0 : W0.heap[w.heap.size]? = some (.cells #[.iface t x, .int .i64 m, .int .i64 e] 91 (0, 0)) := by rw [← hW0]; exact row_alloc (heap_alloc_new _ _)
  have x1 : W0.heap[w.heap.size + 1]? = some (.cells #[.bool false, .slice none 0 0, .slice none 0 0] 50 (0, 0)) := by rw [← hW0]; exact row_new2 _ _ _
  have hs0 := hb0.size
  have h0 := h.below hb0
  have hT0 := TreeAt.keep (.of hb0) p _ hT
  have hba := bare_ok nw bt true sv fv W0 h0.box hnw
  have hne : ((e : Int) == -1) = false := by simp
  have hsub : (e : Int) - (m : Int) = (d : Int) := by omega
  have Hmul : Hid (∀ a b : Nat, a + b ≤ e → a * (wPt p).toNat + b * (wPt p).toNat ≤ e * (wPt p).toNat) := fun a b hab => by rw [← Nat.add_mul]; exact Nat.mul_le_mul_right _ hab
  have Hme : Hid (e = m + d) := hme
  have hd255 : d ≤ 255 := by omega
  have hm255 : m ≤ 255 := by omega
  clear hme
  go_enter Tryd.func39, Tryd.ntmps39
  go_wp2_with fail
  refine hba.mono ?_
  rintro e1 W1 ⟨ga, gl, rfl, na, nl, hfr, hb1⟩
  clear hba hW0
  obtain ⟨W2, hW2⟩ : ∃ W2, W1.alloc (.cells #[.bool true, .slice (some ⟨ga, 0, none⟩) nw nw, .slice (some ⟨gl, 0, none⟩) nw nw] 50) = W2 := ⟨_, rfl⟩
  have hb2 : Below W1.heap.size W1 W2 := by rw [← hW2]; exact (Below.refl _ _).alloc (Nat.le_refl _) _
  have r2 : W2.heap[W1.heap.size]? = some (.cells #[.bool true, .slice (some ⟨ga, 0, none⟩) nw nw, .slice (some ⟨gl, 0, none⟩) nw nw] 50 (0, 0)) := by rw [← hW2]; exact heap_alloc_new _ _
  have D0 := ((WrD.bare h0 true na nl hfr hb1).below hb2).words (N := UpTo (In p) 0) (fun u => by simpa using upTo_zero (In p) u)
  have hX : Cps B W0 n nw bt mk f fr F W1.heap.size (0 * (wPt p).toNat) (UpTo (In p) 0) W2 := ⟨n, ga, gl, true, r2, by omega, _, _, _, _, _, _, _, _, D0⟩
  have hs1 := hb1.size
  have y0 := D0.kp.typ _ _ _ x0 (by decide) (by decide) (by decide)
  obtain ⟨c0, c1, c2, -, -, -⟩ := row_threeF y0
  clear D0 r2 hfr y0 hb1 hb2 na nl h h0 hT
  have Hn : Hid (n + e * (wPt p).toNat ≤ 64 * nw) := hn
  have hrW : W0.heap.size ≤ W1.heap.size := hs1
  have hp0 : 0 < W0.heap.size := by omega
  clear hn hs1
  go_wp2
  clear hW2 c0 c1 c2
  go_loopw [27] (fun i wr => ∃ j : Nat, j ≤ d ∧ i = .int .i64 j ∧ Cps B W0 n nw bt mk f fr F W1.heap.size (j * (wPt p).toNat) (UpTo (In p) j) wr)
    (fun i _ => d - (intOf i).toNat)
  case atStart => exact ⟨0, Nat.zero_le _, rfl, hX⟩
  case round =>
    obtain ⟨j, hj, rfl, n', ga', gl', b, hr, hn', hX'⟩ := hrel
    by_cases hlt : j < d
    · have Hj := Hmul.out j 1 (by have := Hme.out; omega)
      have hw := cps_step ih hT0 hle hX' hr hn' (by have := Hn.out; omega)
      have yk := hX'.kp.typ _ _ _ x0 (by decide) (by decide) (by decide)
      have c0 : wr.cell? ⟨w.heap.size, 0, none⟩ = some (.iface t x) := (row_threeF yk).1
      obtain ⟨d0, d1, d2, -, -, -⟩ := row_threeF hr
      have hi0 : (0 : Int) ≤ (j : Int) := by omega
      have hi1 : (j : Int) < (d : Int) := by omega
      have Hj2 : Hid (j * (wPt p).toNat + (wPt p).toNat = (j + 1) * (wPt p).toNat) := by show _ = _; rw [Nat.add_mul, Nat.one_mul]
      clear Hj hX hX' yk hr hn'
      go_wp2
      go_region_law ((first | (refine step_goE (by rfl) 21 #[.tmp 30, .tmp 32] #[44, 57] (by rfl) #[.pointer (some ⟨bt, 0, none⟩), .iface t x] (by simp [Act.eval]) _ (enterWrite _ _) hw ?_; rintro _ W4 ⟨n2, ha, hl, c, rfl, Hn2, ⟨z0, z1, z2⟩, HX, hsq⟩) | (refine step_go (by rfl) 38 #[.tmp 29, .tmp 33, .tmp 34] #[44, 50, 50] (by rfl) _ (by simp [Act.eval]) _ _ (enterSeq _ _) hsq ?_; rintro W5 ⟨D5, hKU⟩; have y0 := hKU _ _ _ HX.out (by decide); obtain ⟨k0, k1, k2, f0, f1, f2⟩ := row_threeF y0)))
      all_goals
        obtain ⟨q5, q6⟩ := D5.put3 y0 hrW hp0 (.bool (c && b)) (.slice (some ⟨ha, 0, none⟩) nw nw) (.slice (some ⟨gl', 0, none⟩) nw nw)
        clear hw hsq y0 hKU HX z0 z1 z2 d0 d1 d2 c0 D5 k0 k1 k2 f0 f1 f2
        generalize ((W5.setCell ⟨W1.heap.size, 0, none⟩ (.bool (c && b))).setCell ⟨W1.heap.size, 1, none⟩ (.slice (some ⟨ha, 0, none⟩) nw nw)).setCell ⟨W1.heap.size, 2, none⟩ (.slice (some ⟨gl', 0, none⟩) nw nw) = W6 at *
        obtain ⟨k0, -, -, f0, -, -⟩ := row_threeF q6
        go_wp2
        go_roundw
        case rel => exact ⟨j + 1, by omega, by go_num, n2, ha, gl', true, heap_setCell_same _ _ 0 _ _ _ q6, by have := Hn2.out; have := Hj2.out; omega, ((q5.putF q6 hrW hp0).opt).words (fun u => upTo_succ (In p) j u)⟩
        case measure => simp [intOf]; omega
    · have hjd : j = d := by omega
      subst hjd
      have yk := hX'.kp.typ _ _ _ x0 (by decide) (by decide) (by decide)
      have c1 : wr.cell? ⟨w.heap.size, 1, none⟩ = some (.int .i64 m) := (row_threeF yk).2.1
      have hX2 : Cps B W0 n nw bt mk f fr F W1.heap.size (j * (wPt p).toNat) (Ahead (In p) (UpTo (In p) j) 0) wr := ⟨n', ga', gl', b, hr, hn', hX'.words (fun u => ahead_zero (In p) (UpTo (In p) j) u)⟩
      clear hX' hr hn' yk hX
      go_wp2
      clear c1
      go_loopw [40] (fun i wr => ∃ k : Nat, k ≤ m ∧ i = .int .i64 k ∧ Cps B W0 n nw bt mk f fr F W1.heap.size ((j + k) * (wPt p).toNat) (Ahead (In p) (UpTo (In p) j) k) wr)
        (fun i _ => m - (intOf i).toNat)
      case atStart => exact ⟨0, Nat.zero_le _, rfl, hX2⟩
      case round =>
        clear hX2
        obtain ⟨k, hk, rfl, n', ga', gl', b, hr, hn', hX'⟩ := hrel
        by_cases hlt : k < m
        · have Hj := Hmul.out (j + k) 1 (by have := Hme.out; omega)
          have hw := cps_step ih hT0 hle hX' hr hn' (by have := Hn.out; omega)
          have yk := hX'.kp.typ _ _ _ x0 (by decide) (by decide) (by decide)
          have c0 : wr.cell? ⟨w.heap.size, 0, none⟩ = some (.iface t x) := (row_threeF yk).1
          obtain ⟨d0, d1, d2, -, -, -⟩ := row_threeF hr
          have hi0 : (0 : Int) ≤ (k : Int) := by omega
          have hi1 : (k : Int) < (m : Int) := by omega
          have Hj2 : Hid ((j + k) * (wPt p).toNat + (wPt p).toNat = (j + (k + 1)) * (wPt p).toNat) := by show _ = _; rw [← Nat.add_assoc, Nat.add_mul _ 1, Nat.one_mul]
          clear Hj hX' yk hr hn'
          go_wp2
          go_region_law ((first | (refine step_goE (by rfl) 21 #[.tmp 43, .tmp 45] #[44, 57] (by rfl) #[.pointer (some ⟨bt, 0, none⟩), .iface t x] (by simp [Act.eval]) _ (enterWrite _ _) hw ?_; rintro _ W4 ⟨n2, ha, hl, c, rfl, Hn2, ⟨z0, z1, z2⟩, HX, hsq⟩) | (refine step_go (by rfl) 38 #[.tmp 42, .tmp 46, .tmp 47] #[44, 50, 50] (by rfl) _ (by simp [Act.eval]) _ _ (enterSeq _ _) hsq ?_; rintro W5 ⟨D5, hKU⟩; have y0 := hKU _ _ _ HX.out (by decide); obtain ⟨k0, k1, k2, f0, f1, f2⟩ := row_threeF y0)))
          all_goals
            obtain ⟨q5, q6⟩ := D5.put3 y0 hrW hp0 (.bool (c && b)) (.slice (some ⟨ha, 0, none⟩) nw nw) (.slice (some ⟨gl', 0, none⟩) nw nw)
            clear hw hsq y0 hKU HX z0 z1 z2 d0 d1 d2 c0 D5 k0 k1 k2 f0 f1 f2
            generalize ((W5.setCell ⟨W1.heap.size, 0, none⟩ (.bool (c && b))).setCell ⟨W1.heap.size, 1, none⟩ (.slice (some ⟨ha, 0, none⟩) nw nw)).setCell ⟨W1.heap.size, 2, none⟩ (.slice (some ⟨gl', 0, none⟩) nw nw) = W6 at *
            go_wp2
            go_roundw
            case rel => exact ⟨k + 1, by omega, by go_num, n2, ha, gl', c && b, q6, by have := Hn2.out; have := Hj2.out; omega, q5.words (fun u => ahead_succ (In p) (UpTo (In p) j) k u)⟩
            case measure => simp [intOf]; omega
        · have hkm : k = m := by omega
          subst hkm
          obtain ⟨sv5, fv5, mk5, f5, fr5, F5, A5, L5, D⟩ := hX'
          have yk := D.kp.typ _ _ _ x1 (by decide) (by decide) (by decide)
          obtain ⟨k0, k1, k2, f0, f1, f2⟩ := row_threeF yk
          obtain ⟨d0, d1, d2, -, -, -⟩ := row_threeF hr
          have hret := ((D.start hb0 (by omega)).words (N := In (.rep p (k : Int) (e : Int))) (fun u => by rw [Hme.out]; exact rep_some p k j u)).ret (m := e * (wPt p).toNat) yk (by omega) hpos (by rw [Hme.out, Nat.add_comm k j]; exact hn')
          clear D yk hr
          go_wp2
          exact bodyPost_ret (by simp [results, Tryd.results39, go_sem, k0, k1, k2]) rfl hret
end Go.Proofs.YthgaeaihfbiolaaDoor
