import Derived.Test.YtplhghhfdabccaaDoorPackJ
namespace Go.Proofs.YtplhghhfdabccaaDoor
open Go.RowKit
attribute [local go_sem ↓] Go.wp_at_zero Go.wp_at_succ

set_option maxRecDepth 100000 in
set_option maxHeartbeats 8000000 in
theorem implPack_t {lo : Nat} (cv nv tv ev : Value) (d : DfaD) (wd : Nat) (w : World) (hs : DfaAt lo w cv nv tv ev d) (hsm : DfaSmall d) (hwd : d.width = wd) (hcap : ∃ ao cap, nv = .slice ao d.next.length cap ∧ d.next.length ≤ cap) (hB : dfaB d = true) (hBr : Hid (Bruijn w)) :
    Calls Tryd.prog 7 #[.agg #[cv, .int .i64 d.width, nv, tv, ev]] w fun e w' => LoadAns w (packW d) (packC d) (packLs d) e w' := by
  have hf := dfaB_fine hB
  have Hwd : Hid (d.width = wd) := hwd
  have hb0 : Below w.heap.size w ((w.alloc (.cells #[cv, .int .i64 d.width, nv, tv, ev] 30)).alloc (.cells zeroA 27)) := ((Below.refl _ _).alloc (Nat.le_refl _) _).alloc (by simp) _
  have r0 : ((w.alloc (.cells #[cv, .int .i64 d.width, nv, tv, ev] 30)).alloc (.cells zeroA 27)).heap[w.heap.size + 1]? = some (.cells zeroA 27 (0, 0)) := by
    have := heap_alloc_new (w.alloc (.cells #[cv, .int .i64 d.width, nv, tv, ev] 30)) (.cells zeroA 27)
    simpa using this
  have q0 : ((w.alloc (.cells #[cv, .int .i64 d.width, nv, tv, ev] 30)).alloc (.cells zeroA 27)).heap[w.heap.size]? = some (.cells #[cv, .int .i64 d.width, nv, tv, ev] 30 (0, 0)) := row_alloc (heap_alloc_new _ _)
  have hT := implDfaOK_ok cv nv tv ev d _ (hs.below hb0) hsm
  rw [hB] at hT
  have hn1 := hf.n1; have hn2 := hf.n2; have hw1 := hf.w1; have hw2 := hf.w2
  rw [hwd] at hw1 hw2 hT q0 r0 hb0 ⊢
  have hc1 : 0 < d.classes.length ∧ d.classes.length ≤ 256 := by have := hf.cl; omega
  have hf1 : 0 < d.fin.length ∧ d.fin.length ≤ 4000 := by have := hf.fl; omega
  have ht1 : 0 < d.tag.length := by omega
  have hnl0 : d.next.length = d.tag.length * wd := by
    have := hf.nl
    rw [hwd] at this
    exact Int.ofNat.inj this
  have hnx : 0 < d.next.length := by rw [hnl0]; exact Nat.mul_pos ht1 (by omega)
  have HNl : Hid (d.next.length = d.tag.length * wd) := hnl0
  have Hns : Hid (allIn 0 (d.tag.length - 1) d.next = true) := hf.ns
  clear hnl0 hwd
  obtain ⟨⟨a0, p0, rfl, m0, y0⟩, ⟨na, np, rfl, nm, ny⟩, ⟨ta, tp, rfl, tm, ty⟩, ⟨ea, ep, rfl, em, ey⟩⟩ := hs
  obtain ⟨na', np', he, hcap⟩ := hcap
  cases he
  obtain ⟨cb, co, rfl, _, cl, cq⟩ := y0 hc1.1
  obtain ⟨nb, no, rfl, _, nl, nq⟩ := ny hnx
  obtain ⟨tb, tq, rfl, _, tl, tqq⟩ := ty ht1
  obtain ⟨eb, eq, rfl, _, el, eqq⟩ := ey hf1.1
  have Cq : Hid (∀ i, i < d.classes.length → w.cell? ⟨cb, co + i, none⟩ = some (.int .i64 (d.classes.getD i 0))) := cq
  have Nq : Hid (∀ i, i < d.next.length → w.cell? ⟨nb, no + i, none⟩ = some (.int .i64 (d.next.getD i 0))) := nq
  have Tq : Hid (∀ i, i < d.tag.length → w.cell? ⟨tb, tq + i, none⟩ = some (.int .i64 (d.tag.getD i 0))) := tqq
  have Eq : Hid (∀ i, i < d.fin.length → w.cell? ⟨eb, eq + i, none⟩ = some (.int .i64 (d.fin.getD i 0))) := eqq
  clear cq tqq eqq nq y0 ty ey ny hnx
  go_enter Tryd.func7, Tryd.ntmps7
  go_wp2_with fail
  refine hT.mono ?_
  rintro e w1 ⟨rfl, hb1⟩
  have r1 := row_below r0 hb1
  have q1 := row_below q0 hb1
  have hb2 := below_step hb0 hb0.size hb1
  clear r0 hb0 hb1 hT q0
  have hsz1 : w.heap.size + 1 < w1.heap.size := row_lt r1
  have cCls := clone_since cb co p0 d.classes (Nat.lt_of_lt_of_le cl hb2.size) (fun i hi => (hb2.cell (by exact cl)).trans (Cq.out i hi)) hc1.1 (by omega)
  have cTag := clone_since tb tq tp d.tag (Nat.lt_of_lt_of_le tl hb2.size) (fun i hi => (hb2.cell (by exact tl)).trans (Tq.out i hi)) ht1 (by omega)
  have cFin := clone_since eb eq ep d.fin (Nat.lt_of_lt_of_le el hb2.size) (fun i hi => (hb2.cell (by exact el)).trans (Eq.out i hi)) hf1.1 (by omega)
  have HH : Hid (∀ wx, Below w1.heap.size w1 wx → wx.cell? ⟨w.heap.size, 0, none⟩ = some (.slice (some ⟨cb, co, none⟩) d.classes.length p0) ∧ wx.cell? ⟨w.heap.size, 1, none⟩ = some (.int .i64 wd) ∧ wx.cell? ⟨w.heap.size, 3, none⟩ = some (.slice (some ⟨tb, tq, none⟩) d.tag.length tp) ∧ wx.cell? ⟨w.heap.size, 4, none⟩ = some (.slice (some ⟨eb, eq, none⟩) d.fin.length ep)) := fun wx hb => by
    obtain ⟨x0, x1, x2, x3, x4⟩ := row_five q1
    exact ⟨(hb.cell (by simp; omega)).trans x0, (hb.cell (by simp; omega)).trans x1, (hb.cell (by simp; omega)).trans x3, (hb.cell (by simp; omega)).trans x4⟩
  have HS : Hid (∀ (wx : World) (g : Nat) (u0 u1 u2 u3 u4 u5 u6 u7 : Value), w1.heap.size ≤ g → Below w1.heap.size w1 wx → ((((((((wx.setCell ⟨g, 0, none⟩ u0).setCell ⟨g, 1, none⟩ u1).setCell ⟨g, 2, none⟩ u2).setCell ⟨g, 3, none⟩ u3).setCell ⟨g, 4, none⟩ u4).setCell ⟨g, 5, none⟩ u5).setCell ⟨g, 6, none⟩ u6).setCell ⟨g, 7, none⟩ u7).cell? ⟨w.heap.size, 0, none⟩ = some (.slice (some ⟨cb, co, none⟩) d.classes.length p0) ∧ ((((((((wx.setCell ⟨g, 0, none⟩ u0).setCell ⟨g, 1, none⟩ u1).setCell ⟨g, 2, none⟩ u2).setCell ⟨g, 3, none⟩ u3).setCell ⟨g, 4, none⟩ u4).setCell ⟨g, 5, none⟩ u5).setCell ⟨g, 6, none⟩ u6).setCell ⟨g, 7, none⟩ u7).cell? ⟨w.heap.size, 1, none⟩ = some (.int .i64 wd) ∧ ((((((((wx.setCell ⟨g, 0, none⟩ u0).setCell ⟨g, 1, none⟩ u1).setCell ⟨g, 2, none⟩ u2).setCell ⟨g, 3, none⟩ u3).setCell ⟨g, 4, none⟩ u4).setCell ⟨g, 5, none⟩ u5).setCell ⟨g, 6, none⟩ u6).setCell ⟨g, 7, none⟩ u7).cell? ⟨w.heap.size, 3, none⟩ = some (.slice (some ⟨tb, tq, none⟩) d.tag.length tp) ∧ ((((((((wx.setCell ⟨g, 0, none⟩ u0).setCell ⟨g, 1, none⟩ u1).setCell ⟨g, 2, none⟩ u2).setCell ⟨g, 3, none⟩ u3).setCell ⟨g, 4, none⟩ u4).setCell ⟨g, 5, none⟩ u5).setCell ⟨g, 6, none⟩ u6).setCell ⟨g, 7, none⟩ u7).cell? ⟨w.heap.size, 4, none⟩ = some (.slice (some ⟨eb, eq, none⟩) d.fin.length ep)) := fun wx g u0 u1 u2 u3 u4 u5 u6 u7 hg hb => HH.out _ (below_set8 hb hg u0 u1 u2 u3 u4 u5 u6 u7)
  go_upto_region 3 with fail
  go_cut [4] from 16 to 27 (fun tv wx => ∃ (gt : Nat) (v : Nat → Value), tv = .pointer (some ⟨gt, 0, none⟩) ∧ PkA w #[.slice (some ⟨cb, co, none⟩) d.classes.length p0, .int .i64 wd, .slice (some ⟨nb, no, none⟩) d.next.length np, .slice (some ⟨tb, tq, none⟩) d.tag.length tp, .slice (some ⟨eb, eq, none⟩) d.fin.length ep] gt wd wx v (pkL d.classes d.tag d.fin ⟨[], [], [], []⟩ []))
  case first =>
    go_region_held3 (fun wx => wx.cell? ⟨w.heap.size, 0, none⟩ = some (.slice (some ⟨cb, co, none⟩) d.classes.length p0) ∧ wx.cell? ⟨w.heap.size, 1, none⟩ = some (.int .i64 wd) ∧ wx.cell? ⟨w.heap.size, 3, none⟩ = some (.slice (some ⟨tb, tq, none⟩) d.tag.length tp) ∧ wx.cell? ⟨w.heap.size, 4, none⟩ = some (.slice (some ⟨eb, eq, none⟩) d.fin.length ep)) ((first | ((with_reducible refine HS.out _ _ _ _ _ _ _ _ _ _ ?_ (by first | exact BC | exact BC.alloc BC.size _)); first | exact Nat.le_refl _ | exact BA.size | exact BB.size | exact BC.size) | with_reducible exact HH.out _ (Below.refl _ _) | with_reducible exact HH.out _ (Below.refl _ _).drew | with_reducible exact HH.out _ ((Below.refl _ _).alloc (Nat.le_refl _) _) | with_reducible exact HH.out _ ((Below.refl _ _).drew.alloc (Nat.le_refl _) _) | with_reducible exact HH.out _ ((Below.refl _ _).alloc (Nat.le_refl _) _).drew | with_reducible exact HH.out _ BA | with_reducible exact HH.out _ (BA.alloc BA.size _) | with_reducible exact HH.out _ BB | with_reducible exact HH.out _ (BB.alloc BB.size _) | with_reducible exact HH.out _ BC | with_reducible exact HH.out _ (BC.alloc BC.size _) | fail)) ((first | (go_at_call 19; (with_reducible refine (cFin _ (by first | exact BB | exact BB.alloc BB.size _)).mono ?_); rintro e wc ⟨gc, pc, rfl, OC, Bc, BC⟩; (first | ((with_reducible have zr := row_below (heap_alloc_new _ _) Bc); (have zf : ∀ o, wc.frozen? ⟨_, o, none⟩ = false := fun _ => frozen_of_row _ _ _ _ _ zr); (obtain ⟨z0, z1, z2, z3, z4, z5, z6, z7⟩ := row_eight zr)) | ((with_reducible have zr := row_below zz Bc); (have zf : ∀ o, wc.frozen? ⟨_, o, none⟩ = false := fun _ => frozen_of_row _ _ _ _ _ zr); (obtain ⟨z0, z1, z2, z3, z4, z5, z6, z7⟩ := row_eight zr)) | skip)) | (go_at_call 19; (with_reducible refine (cTag _ (by first | exact BA | exact BA.alloc BA.size _)).mono ?_); rintro e wb ⟨gb, pb, rfl, OB, Bb, BB⟩; (first | (with_reducible have zz := row_below (heap_alloc_new _ _) Bb) | (with_reducible have zz := row_below zy Bb) | skip)) | (go_at_call 19; (with_reducible refine (cCls _ (by first | exact (Below.refl _ _).drew | exact (Below.refl _ _) | exact (Below.refl _ _).alloc (Nat.le_refl _) _ | exact (Below.refl _ _).drew.alloc (Nat.le_refl _) _ | exact ((Below.refl _ _).alloc (Nat.le_refl _) _).drew)).mono ?_); rintro e wa ⟨ga, pa, rfl, OA, Ba, BA⟩; (first | (with_reducible have zy := row_below (heap_alloc_new _ _) Ba) | (with_reducible have zy := row_below (row_below (heap_alloc_new _ _) (Below.refl _ _).drew) Ba) | skip))))
    · obtain ⟨⟨t1, t2, t3⟩, ⟨u1, u2, u3⟩, hn⟩ := three_copies hb2 q1 r1 (Below.refl _ _).drew OA Ba (Below.refl _ _) OB Bb (Below.refl _ _) OC Bc rfl rfl rfl
      have hP := PkA.fresh (width := wd) t1 t2 t3 u1 u2 u3 (by omega)
      clear t1 t2 t3 u1 u2 u3 hn cCls cTag cFin HH HS r1 q1 hb2 OA OB OC Ba Bb Bc BA BB BC
      have HP : Hid _ := hP
      clear hP
      go_wp2_with fail
      go_meet
      exact ⟨_, _, rfl, HP.out⟩
    · obtain ⟨⟨t1, t2, t3⟩, ⟨u1, u2, u3⟩, hn⟩ := three_copies hb2 q1 r1 (Below.refl _ _).drew OA Ba (Below.refl _ _) OB Bb ((Below.refl _ _).alloc (Nat.le_refl _) _) OC Bc rfl rfl (World.size_alloc _ _)
      have hP := PkA.store (width := wd) t1 t2 t3 zr (by omega) u1 u2 u3 (by omega)
      clear t1 t2 t3 u1 u2 u3 hn cCls cTag cFin HH HS r1 q1 hb2 OA OB OC Ba Bb Bc BA BB BC
      have HP : Hid _ := hP
      clear hP
      go_wp2_with fail
      go_meet
      exact ⟨_, _, rfl, HP.out⟩
    · obtain ⟨⟨t1, t2, t3⟩, ⟨u1, u2, u3⟩, hn⟩ := three_copies hb2 q1 r1 (Below.refl _ _).drew OA Ba ((Below.refl _ _).alloc (Nat.le_refl _) _) OB Bb (Below.refl _ _) OC Bc rfl (World.size_alloc _ _) rfl
      have hP := PkA.store (width := wd) t1 t2 t3 zr (by omega) u1 u2 u3 (by omega)
      clear t1 t2 t3 u1 u2 u3 hn cCls cTag cFin HH HS r1 q1 hb2 OA OB OC Ba Bb Bc BA BB BC
      have HP : Hid _ := hP
      clear hP
      go_wp2_with fail
      go_meet
      exact ⟨_, _, rfl, HP.out⟩
    · obtain ⟨⟨t1, t2, t3⟩, ⟨u1, u2, u3⟩, hn⟩ := three_copies hb2 q1 r1 ((Below.refl _ _).alloc (Nat.le_refl _) _).drew OA Ba (Below.refl _ _) OB Bb (Below.refl _ _) OC Bc (World.size_alloc _ _) rfl rfl
      have hP := PkA.store (width := wd) t1 t2 t3 zr (by omega) u1 u2 u3 (by omega)
      clear t1 t2 t3 u1 u2 u3 hn cCls cTag cFin HH HS r1 q1 hb2 OA OB OC Ba Bb Bc BA BB BC
      have HP : Hid _ := hP
      clear hP
      go_wp2_with fail
      go_meet
      exact ⟨_, _, rfl, HP.out⟩
  case rest =>
    obtain ⟨gt, v0, rfl, P⟩ := hcut
    clear cCls cTag cFin HS HH r1 q1 hb2 hsz1
    obtain ⟨i0, hi0, hz0, hz1, hz2⟩ := info_parts Tryd.infoInt
    have cL := newLayout_ok wc
    go_upto_region 5 with (go_at_call 20; refine cL.mono ?_; rintro e w2 ⟨p, rfl, hp, hT2, hL2, hb2⟩)
    clear cL
    obtain ⟨x0, x1, x2, x3, x4⟩ := row_five (row_below P.box hb2)
    go_upto_region 6 with (refine wpList_make_full _ rfl _ _ 22 rfl w2.heap.size 3 i0 _ 1 Tryd.underlying22 hi0 hz0 hz1 _ _ _ _ d.tag.length rfl rfl rfl rfl (by rw [hz2]; omega) (by unfold maxLen; omega) (Nat.le_refl _) ?_; intro w3 hown hgrow)
    have hb3 : Below w2.heap.size w2 w3 := (Below.refl _ _).grown hgrow (Nat.le_refl _) (by intro k h; cases h)
    have hr := own_full hown
    rw [made_ints] at hr
    have S0 := P.start hp hT2 hL2 hb2 hr hb3
    clear hown hgrow hb3 hr hp hT2 hL2 hb2 P x0 x1 x2 x3 x4 hi0 hz0 hz1 hz2
    generalize wc.heap.size = gT at *
    generalize w2.heap.size = gC at *
    obtain ⟨x0, x1, x2, x3, x4⟩ := row_five S0.box
    go_upto_region 7 with fail
    clear x0 x1 x2 x3 x4
    go_loopw [36] (fun i wr => ∃ (k : Nat) (L : Lay) (v : Nat → Value) (T : Nat → Nat), k ≤ d.tag.length ∧ i = .int .i64 k ∧ Hid (layN d.next wd k = some L) ∧ PkI w #[.slice (some ⟨cb, co, none⟩) d.classes.length p0, .int .i64 wd, .slice (some ⟨nb, no, none⟩) d.next.length np, .slice (some ⟨tb, tq, none⟩) d.tag.length tp, .slice (some ⟨eb, eq, none⟩) d.fin.length ep] gt p gT gC d.tag.length T wd wr v (pkL d.classes d.tag d.fin L []) ∧ Hid (L.next.length = L.chk.length ∧ L.chk.length ≤ 60000) ∧ Hid (∀ q, bitAt T q = !freeAt L.chk q) ∧ Hid (L.base.length = k ∧ L.dflt.length = k) ∧ L.base.length ≤ 4000 ∧ L.dflt.length ≤ 4000)
      (fun i _ => d.tag.length - (intOf i).toNat)
    case atStart => exact ⟨0, _, _, _, by omega, rfl, rfl, S0, ⟨rfl, by simp⟩, fun q => by simp [bitAt, freeAt], ⟨rfl, rfl⟩, by simp, by simp⟩
    case round =>
      clear S0
      obtain ⟨k, L, v, T, hk, rfl, HL, S, HLen, HBit, HBl, hbl, hdl⟩ := hrel
      by_cases hlt : k < d.tag.length
      · obtain ⟨x0, x1, x2, x3, x4⟩ := row_five S.box
        have HM : Hid (k * wd + wd ≤ d.next.length) := by
          have := Nat.mul_le_mul_right wd (show k + 1 ≤ d.tag.length by omega)
          rw [Nat.succ_mul] at this
          show _ ≤ _
          rw [HNl.out]; exact this
        have hkw : k * wd ≤ 4000 * 256 := Nat.mul_le_mul (by omega) (by omega)
        have e1 : (k : Int) * (wd : Int) = ((k * wd : Nat) : Int) := by simp
        have e2 : ((k : Int) + 1) * (wd : Int) = ((k * wd + wd : Nat) : Int) := by rw [Int.add_mul]; simp
        have hM : k * wd + wd ≤ np := by have := HM.out; omega
        generalize hkm : k * wd = km at *
        have Hkm : Hid (k * wd = km) := hkm
        clear hkm
        have RowC : Hid (∀ j, j < wd → w.cell? ⟨nb, no + km + j, none⟩ = some (.int .i64 ((rowF d.next wd k).getD j 0))) := fun j hj => by
          rw [rowF_get hj, Hkm.out, Nat.add_assoc]
          exact Nq.out (km + j) (by have := HM.out; omega)
        have HRl : Hid ((rowF d.next wd k).length = wd) := rowF_len (s := k) HNl.out hlt
        have hRin : ∀ x ∈ rowF d.next wd k, 0 ≤ x ∧ x < (d.tag.length : Int) := fun x hx => by
          have h1 : x ∈ d.next := List.mem_of_mem_drop (List.mem_of_mem_take hx)
          obtain ⟨i, hi, rfl⟩ := List.getElem_of_mem h1
          have := allIn_at Hns.out hi
          rw [show d.next.getD i 0 = d.next[i] by simp [List.getD, hi]] at this
          omega
        have cM := mostFrequent_ok nb (no + km) (np - km) (rowF d.next wd k) gC d.tag.length d.tag.length wr (by have := S.o4; omega) (Nat.lt_of_lt_of_le nl S.below.size) (fun j hj => (S.below.cell (by exact nl)).trans (RowC.out j (by have := HRl.out; omega))) S.cnt (by have := HRl.out; omega) (by have := HRl.out; omega) hRin
        rw [HRl.out] at cM
        have e3 : km + wd - km = wd := by omega
        go_upto_region 10 with fail
        rw [e3]
        clear e3 e1 e2 hM x0 x1 x2 x3 x4 hRin
        go_upto_region 11 with (go_at_call 21; refine cM.mono ?_; rintro e wy ⟨rfl, hby⟩)
        clear cM
        have S1 := S.grow hby
        clear S hby
        have cP := place_pki S1 d.next wd k nb (no + km) (np - km) nl RowC HRl.out (by omega) HLen HBit hBr (by omega) HL
        clear RowC HRl HL HLen HBit
        generalize bestF (rowF d.next wd k) = dv at *
        go_wp2_with fail
        refine cP.mono ?_
        clear cP
        rintro e wz (⟨rfl, HNone, S2⟩ | ⟨kk, N', C', T2, v2, rfl, HSome, S2, HLen, HBit⟩)
        · clear S1
          have HC2 : Hid (packC d = 2) := by
            show _ = _
            unfold packC packN
            rw [if_neg (by simp [hB]), show d.width.toNat = wd by rw [Hwd.out]; rfl, layN_stop HNone.out _ hlt, if_pos rfl]
          have hr := S2.res
          have h8 := below_set8 S2.below (show w.heap.size ≤ w.heap.size + 1 by omega) (.slice none 0 0) (.int .i64 0) (.slice none 0 0) (.slice none 0 0) (.slice none 0 0) (.slice none 0 0) (.slice none 0 0) (.slice none 0 0)
          have fr : ∀ o, wz.frozen? ⟨w.heap.size + 1, o, none⟩ = false := fun _ => frozen_of_row _ _ _ _ _ hr
          unfold zeroA at hr
          obtain ⟨y0, y1, y2, y3, y4, y5, y6, y7⟩ := row_eight hr
          have H8 : Hid (Below w.heap.size w (set8 wz (w.heap.size + 1) (.slice none 0 0) (.int .i64 0) (.slice none 0 0) (.slice none 0 0) (.slice none 0 0) (.slice none 0 0) (.slice none 0 0) (.slice none 0 0))) := h8
          clear h8 hr HNone S2
          go_wp2
          refine bodyPost_ret (v := .tuple #[.agg #[.slice none 0 0, .int .i64 0, .slice none 0 0, .slice none 0 0, .slice none 0 0, .slice none 0 0, .slice none 0 0, .slice none 0 0], .int .i64 2]) (by simp [results, Tryd.results7, go_sem, y0, y1, y2, y3, y4, y5, y6, y7]) rfl ?_
          obtain ⟨e1, e2⟩ := pack_bad HC2.out (by decide)
          rw [e1, e2, HC2.out]
          exact ⟨w.heap.size, fun _ => .slice none 0 0, rfl, Nat.le_refl _, Fam.nil _ _ _, H8.out⟩
        · clear S1
          obtain ⟨a0, a1, a2, a3, a4, a5, a6, a7⟩ := row_A S2.row
          go_upto_region 15 with (refine wpList_pki S2 wz.heap.size rfl rfl (.tmp 66) (.tmp 68) rfl 1 (by omega) 2 rfl L.base rfl L.base.length rfl rfl (kk : Int) rfl (by omega) ?_; intro g1 cap1 V1 rr SN; clear a0 a1 a2 a3 a4 a5 a6 a7; obtain ⟨a0, a1, a2, a3, a4, a5, a6, a7⟩ := row_A rr; have fr0 := frozen_of_row _ _ 2 _ _ rr)
          rw [pkL_upd1] at SN
          clear a0 a1 a2 a3 a4 a5 a6 a7 rr S2 fr0
          generalize V1.setCell ⟨gt, 2, none⟩ (.slice (some ⟨g1, 0, none⟩) (L.base.length + 1) cap1) = V2 at *
          generalize upd v2 1 (.slice (some ⟨g1, 0, none⟩) (L.base.length + 1) cap1) = v3 at *
          obtain ⟨a0, a1, a2, a3, a4, a5, a6, a7⟩ := row_A SN.row
          go_wp2_with (refine wpList_pki SN V2.heap.size rfl rfl (.tmp 72) (.tmp 74) rfl 2 (by omega) 3 rfl L.dflt rfl L.dflt.length rfl rfl dv rfl (by omega) ?_; intro g2 cap2 V3 rr SM; clear a0 a1 a2 a3 a4 a5 a6 a7; obtain ⟨a0, a1, a2, a3, a4, a5, a6, a7⟩ := row_A rr; have fr0 := frozen_of_row _ _ 3 _ _ rr)
          rw [pkL_upd2] at SM
          go_roundw
          case rel => exact ⟨k + 1, _, _, _, by omega, by go_num, HSome.out, SM, HLen, HBit, ⟨by simp [HBl.out.1], by simp [HBl.out.2]⟩, by have := HBl.out.1; simp; omega, by have := HBl.out.2; simp; omega⟩
          case measure => simp [intOf]; omega
      · have hkn : k = d.tag.length := by omega
        have HP := pack_good (d := d) (L := L) hB (by unfold packN; rw [show d.width.toNat = wd by rw [Hwd.out]; rfl, ← hkn]; exact HL.out)
        have HPa : Hid (packC d = 0 ∧ packW d = wd ∧ packLs d = pkL d.classes d.tag d.fin L []) := ⟨HP.1, HP.2.1.trans Hwd.out, HP.2.2⟩
        clear HP hkn HL
        obtain ⟨⟨b5, z5⟩, e5⟩ := owns_form (S.fam.own 5 (by omega))
        obtain ⟨⟨b6, z6⟩, e6⟩ := owns_form (S.fam.own 6 (by omega))
        have HE : Hid (PkE w gt wd ((wr.setCell ⟨gt, 6, none⟩ (v 5)).setCell ⟨gt, 7, none⟩ (v 6)) v (pkL d.classes d.tag d.fin L [])) := S.done
        rw [e5, e6] at HE
        have fr : ∀ o, wr.frozen? ⟨gt, o, none⟩ = false := fun _ => frozen_of_row _ _ _ _ _ S.row
        have c6 : wr.cell? ⟨gt, 6, none⟩ = some (.slice none 0 0) := (row_A S.row).2.2.2.2.2.2.1
        have c7 : wr.cell? ⟨gt, 7, none⟩ = some (.slice none 0 0) := (row_A S.row).2.2.2.2.2.2.2
        have l1 : wr.cell? ⟨p, 1, none⟩ = some (v 5) := (row_ly S.lay).2.1
        have l2 : wr.cell? ⟨p, 2, none⟩ = some (v 6) := (row_ly S.lay).2.2
        rw [e5] at l1
        rw [e6] at l2
        have hgp : p ≠ gt := S.n1.symm
        clear e5 e6 S
        go_upto_region 17 with fail
        go_cut [] from 78 to 87 (fun wx => PkE w gt wd wx v (pkL d.classes d.tag d.fin L []))
        case first =>
          go_region
          go_wp2_with fail
          go_meet
          exact HE.out.drew
        case rest =>
          have F7 := hcut.fam
          have hrow := hcut.row
          have hres := hcut.res
          have hbl2 := hcut.below
          have hov2 := hcut.o1
          clear hcut HE fr c6 c7 l1 l2
          obtain ⟨⟨b0, z0⟩, e0⟩ := owns_form (F7.own 0 (by omega))
          obtain ⟨⟨b1, z1⟩, e1⟩ := owns_form (F7.own 1 (by omega))
          obtain ⟨⟨b2, z2⟩, e2⟩ := owns_form (F7.own 2 (by omega))
          obtain ⟨⟨b3, z3⟩, e3⟩ := owns_form (F7.own 3 (by omega))
          obtain ⟨⟨b4, z4⟩, e4⟩ := owns_form (F7.own 4 (by omega))
          obtain ⟨⟨b5, z5⟩, e5⟩ := owns_form (F7.own 5 (by omega))
          obtain ⟨⟨b6, z6⟩, e6⟩ := owns_form (F7.own 6 (by omega))
          have fr : ∀ o, wc.frozen? ⟨w.heap.size + 1, o, none⟩ = false := fun _ => frozen_of_row _ _ _ _ _ hres
          have E : Hid (rowA wd v = #[.slice b0 (pkL d.classes d.tag d.fin L [] 0).length z0, .int .i64 wd, .slice b1 (pkL d.classes d.tag d.fin L [] 1).length z1, .slice b2 (pkL d.classes d.tag d.fin L [] 2).length z2, .slice b3 (pkL d.classes d.tag d.fin L [] 3).length z3, .slice b4 (pkL d.classes d.tag d.fin L [] 4).length z4, .slice b5 (pkL d.classes d.tag d.fin L [] 5).length z5, .slice b6 (pkL d.classes d.tag d.fin L [] 6).length z6]) := by show _ = _; unfold rowA; rw [e0, e1, e2, e3, e4, e5, e6]
          rw [E.out] at hrow
          unfold zeroA at hres
          obtain ⟨x0, x1, x2, x3, x4, x5, x6, x7⟩ := row_eight hrow
          obtain ⟨y0, y1, y2, y3, y4, y5, y6, y7⟩ := row_eight hres
          have h8 := below_set8 hbl2 (show w.heap.size ≤ w.heap.size + 1 by omega) (.slice b0 (pkL d.classes d.tag d.fin L [] 0).length z0) (.int .i64 wd) (.slice b1 (pkL d.classes d.tag d.fin L [] 1).length z1) (.slice b2 (pkL d.classes d.tag d.fin L [] 2).length z2) (.slice b3 (pkL d.classes d.tag d.fin L [] 3).length z3) (.slice b4 (pkL d.classes d.tag d.fin L [] 4).length z4) (.slice b5 (pkL d.classes d.tag d.fin L [] 5).length z5) (.slice b6 (pkL d.classes d.tag d.fin L [] 6).length z6)
          have f8 := Fam.set8 F7 (b := w.heap.size + 1) (by omega) (.slice b0 (pkL d.classes d.tag d.fin L [] 0).length z0) (.int .i64 wd) (.slice b1 (pkL d.classes d.tag d.fin L [] 1).length z1) (.slice b2 (pkL d.classes d.tag d.fin L [] 2).length z2) (.slice b3 (pkL d.classes d.tag d.fin L [] 3).length z3) (.slice b4 (pkL d.classes d.tag d.fin L [] 4).length z4) (.slice b5 (pkL d.classes d.tag d.fin L [] 5).length z5) (.slice b6 (pkL d.classes d.tag d.fin L [] 6).length z6)
          have H8 : Hid _ := And.intro h8 f8
          clear h8 f8 e0 e1 e2 e3 e4 e5 e6 hrow hres F7
          go_wp2
          refine bodyPost_ret (v := .tuple #[.agg (rowA wd v), .int .i64 0]) (by rw [E.out]; simp [results, Tryd.results7, go_sem, y0, y1, y2, y3, y4, y5, y6, y7]) rfl ?_
          obtain ⟨q1, q2, q3⟩ := HPa.out
          rw [q1, q2, q3]
          exact ⟨w.heap.size + 1, v, rfl, by omega, H8.out.2, H8.out.1⟩
end Go.Proofs.YtplhghhfdabccaaDoor
