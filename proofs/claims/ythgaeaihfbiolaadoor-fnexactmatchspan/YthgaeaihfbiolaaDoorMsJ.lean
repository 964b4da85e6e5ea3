import Derived.Test.YthgaeaihfbiolaaDoorSameMsI
import Derived.Deep.RegionHeld3
namespace Go.Proofs.YthgaeaihfbiolaaDoor
open Go.RowKit
attribute [local go_sem ↓] Go.wp_at_zero Go.wp_at_succ

theorem own_cells {w : World} {base : Nat} {e : TypeId} {g n cap : Nat} {xs : List Value} (h : w.ownsRow base e 1 (.slice (some ⟨g, 0, none⟩) n cap) n xs) : ∃ cur : Array Value, w.heap[g]? = some (.cells cur e (0, 0)) ∧ ∀ p, p < n → cur[p]? = xs[p]? := by
  rcases h.2 with ⟨h0, _⟩ | ⟨g', cap', cur, hv, hg, hh, hnc, _, hsz, ht⟩
  · cases h0
  · cases hv
    refine ⟨cur, hh, fun p hp => ?_⟩
    rw [← ht, List.getElem?_take, if_pos (by omega), Array.getElem?_toList]

set_option maxRecDepth 100000 in
set_option maxHeartbeats 4000000 in
theorem implSpan_ok {lo : Nat} (G : Int) (v : Value) (bs : List BranchD) (t : ByteArray) (a e : Int) (cl : Bool) (w : World) (hs : BranchesAt lo w v bs) (hsm : Small bs) (hBr : Bruijn w) :
    Calls Tryd.prog 7 #[.agg #[v, .int .i64 G], .string t, .int .i64 a, .int .i64 e, .bool cl] w fun r w' => SpanR w (SpanP G bs t a e cl) r w' := by
  have hs0 := hs
  have hlen := hsm.1
  have hpos := bru_pos hBr
  obtain ⟨ao, cap, rfl, hm, hc⟩ := hs
  obtain ⟨W0, hW0⟩ : ∃ W0, w.alloc (.cells #[.slice ao bs.length cap, .int .i64 G] 29) = W0 := ⟨_, rfl⟩
  have hb0 : Below w.heap.size w W0 := by rw [← hW0]; exact (Below.refl _ _).alloc (Nat.le_refl _) _
  have x0 : W0.heap[w.heap.size]? = some (.cells #[.slice ao bs.length cap, .int .i64 G] 29 (0, 0)) := by rw [← hW0]; exact heap_alloc_new _ _
  have a0 : W0.cell? ⟨w.heap.size, 0, none⟩ = some (.slice ao bs.length cap) := (cell_of_row _ _ _ _ _ _ x0 : W0.cell? ⟨w.heap.size, 0, none⟩ = _)
  have a1 : W0.cell? ⟨w.heap.size, 1, none⟩ = some (.int .i64 G) := (cell_of_row _ _ _ _ _ _ x0 : W0.cell? ⟨w.heap.size, 1, none⟩ = _)
  have hsp := implSpanOK_ok t a e W0
  have HS : Hid (∀ P : Prop, (SpanP G bs t a e cl ↔ P) → ((implB G bs && spanI t a e) = true ↔ spanB G bs t a e = true)) := fun _ _ => by rw [rule_same]; rfl
  have hlift := liftRule_okT G _ bs W0 (hs0.below hb0) hsm
  have Hno : Hid ((implB G bs && spanI t a e) = false → ¬SpanP G bs t a e cl) := fun h hp => by
    have h1 := hp.1
    unfold spanB at h1
    rw [← rule_same] at h1
    unfold spanI at h
    rw [h1] at h
    cases h
  cases hq : spanI t a e
  · rw [hq] at hsp
    go_enter Tryd.func7, Tryd.ntmps7
    go_wp2_with (go_at_call 13; refine hsp.mono ?_; rintro r w1 ⟨rfl, hw1⟩; subst w1)
    go_ret
    exact ⟨false, rfl, ⟨fun h => (Bool.false_ne_true h).elim, fun h => (Hno.out (by rw [hq, Bool.and_false]) h).elim⟩, hb0⟩
  have hq0 := hq
  unfold spanI at hq0
  simp only [decide_eq_true_eq] at hq0
  obtain ⟨ht, ha0, hae, het⟩ := hq0
  obtain ⟨a', rfl⟩ : ∃ a' : Nat, a = a' := ⟨a.toNat, by omega⟩
  obtain ⟨e', rfl⟩ : ∃ e' : Nat, e = e' := ⟨e.toNat, by omega⟩
  have hyes : Hid (implB G bs = true → (SpanP G bs t a' e' cl ↔ MsL bs t.size a' e' cl bs.length ((t.data.toList.drop a').take (e' - a')))) := fun hi => by
    have h1 : spanB G bs t a' e' = true := by
      unfold spanB
      rw [← rule_same, hi]
      exact hq
    constructor
    · rintro ⟨-, k, hk, h2, h3⟩; exact ⟨k, hk, h2, h3⟩
    · rintro ⟨k, hk, h2, h3⟩; exact ⟨h1, k, hk, h2, h3⟩
  rw [hq] at hsp
  clear HS
  go_enter Tryd.func7, Tryd.ntmps7
  go_wp2_with (go_at_call 13; refine hsp.mono ?_; rintro r w1 ⟨rfl, hw1⟩; subst w1)
  refine hlift.mono ?_
  rintro r W1 ⟨hb1, ⟨hi, pv, rfl⟩ | ⟨hi, st, xs, B0, g, sc, hst, hstl, hsum, rfl, hown, htr⟩⟩
  · have Hi : Hid _ := hi
    clear hi
    go_wp2
    go_ret
    exact ⟨false, rfl, ⟨fun h => (Bool.false_ne_true h).elim, fun h => (Hno.out (by rw [Hi.out, Bool.false_and]) h).elim⟩, hb0.trans (hb1.mono hb0.size)⟩
  have Hyes : Hid _ := hyes.out hi
  have Hst : Hid (st.length = bs.length) := hstl
  obtain ⟨N, hparts⟩ := htr.parts
  have hwa := weightOfAll_ok st xs W1 hown hparts (by omega)
  have hsb := sumCap_bd hparts st.length (Nat.le_refl _)
  rw [List.take_length] at hsb
  obtain ⟨tot, Htot⟩ : ∃ tot : Nat, Hid (sumCap st = tot) := ⟨(sumCap st).toNat, by show _ = _; omega⟩
  have htot : tot ≤ 2000 := by have := Htot.out; omega
  rw [Htot.out] at hwa
  have hsl : st.length ≤ 1048576 := by omega
  have Hpre : Hid (∀ k, k ≤ st.length → sumCap (st.take k) ≤ 2000) := fun k hk => by have := sum_pre hparts hsum (st.length - k) k (by omega); omega
  have Hsum : Hid (∀ k, k < st.length → sumCap (st.take (k + 1)) = sumCap (st.take k) + st.getD k 0 ∧ 1 ≤ st.getD k 0 ∧ 0 ≤ sumCap (st.take k)) := fun k hk => sum_step hparts k hk (Hpre.out _ (by omega))
  have Hall : Hid (∀ k, k ≤ st.length → sumCap (st.take k) ≤ tot) := fun k hk => by have := sum_pre hparts hsum (st.length - k) k (by omega); have := Htot.out; omega
  have a0' := (hb1.cell (p := ⟨w.heap.size, 0, none⟩) (Array.getElem?_eq_some_iff.1 x0).1).trans a0
  have x1 := (hb1.block _ (Array.getElem?_eq_some_iff.1 x0).1).trans x0
  have hb01 := hb0.trans (hb1.mono hb0.size)
  obtain ⟨cur, hcur, hcx⟩ := own_cells hown
  clear hi hst hstl hsum hlift hsp hq hyes Hno a0 a1 hW0 hb1 x0 hsb
  obtain ⟨nw, Hnw⟩ : ∃ nw : Nat, Hid (nw = (tot + 63) / 64) := ⟨_, rfl⟩
  have hnw : nw ≤ 1000 := by have := Hnw.out; omega
  go_wp2_with (first | (go_at_call 16; refine hwa.mono ?_; rintro r W2 ⟨rfl, hb2⟩) | (go_at_call 15; refine (newTracks_ok tot nw Hnw.out (by omega) W2).mono ?_; rintro r W3 ⟨rfl, hW3⟩; have y3 : TrBox W3 W2.heap.size nw (.slice none 0 0) (.slice none 0 0) := (by rw [hW3]; exact heap_alloc_new _ _); have hb3 : Below W2.heap.size W2 W3 := (by rw [hW3]; exact (Below.refl _ _).alloc (Nat.le_refl _) _); clear hW3) | fail)
  have hb12 : Below W1.heap.size W1 W3 := hb2.trans (hb3.mono hb2.size)
  have hb03 : Below w.heap.size w W3 := hb01.trans (hb12.mono hb01.size)
  have hbt : w.heap.size ≤ W2.heap.size := Nat.le_trans hb01.size hb2.size
  have tk3 := Trk.start (B := w.heap.size) hbt hpos y3 hnw (hBr.keep (hb03.block 0 hpos)) (fun _ => 0) (fun _ _ => false) (fun _ => 0) (fun _ => zeroT)
  have ht3 := htr.keep (KeepM.of hb12)
  have hc3 := (hb12.block g (Array.getElem?_eq_some_iff.1 hcur).1).trans hcur
  have x3 := (hb12.block _ (Array.getElem?_eq_some_iff.1 x1).1).trans x1
  have hba := bare_ok nw W2.heap.size false (.slice none 0 0) (.slice none 0 0) W3 y3 hnw
  generalize hbtt : W2.heap.size = bt at *
  clear hb2 hb3 hb12 hwa x1 a0' htr hcur hb01 hbtt y3
  refine hba.mono ?_
  rintro r W4 ⟨ga, gl, rfl, na, nl, hfr, hb4⟩
  obtain ⟨W5, hW5⟩ : ∃ W5, W4.alloc (.cells #[.bool false, .slice (some ⟨ga, 0, none⟩) nw nw, .slice (some ⟨gl, 0, none⟩) nw nw] 50) = W5 := ⟨_, rfl⟩
  have hb5 : Below W4.heap.size W4 W5 := by rw [← hW5]; exact (Below.refl _ _).alloc (Nat.le_refl _) _
  have r5 : W5.heap[W4.heap.size]? = some (.cells #[.bool false, .slice (some ⟨ga, 0, none⟩) nw nw, .slice (some ⟨gl, 0, none⟩) nw nw] 50 (0, 0)) := by rw [← hW5]; exact heap_alloc_new _ _
  have D0 := ((WrD.bare tk3 false na nl hfr hb4).below hb5).words (fun u => msL_zero bs t.size a' e' cl u)
  have hX : Cps w.heap.size W3 0 nw bt (fun _ => 0) (fun _ _ => false) (fun _ => 0) (fun _ => zeroT) W4.heap.size (sumCap (st.take 0)).toNat (MsL bs t.size a' e' cl 0) W5 := ⟨0, ga, gl, false, r5, Nat.zero_le _, _, _, _, _, _, _, _, _, D0⟩
  have y5 := D0.kp.typ _ _ _ x3 (by decide) (by decide) (by decide)
  have c0 : W5.cell? ⟨w.heap.size, 0, none⟩ = some (.slice ao bs.length cap) := (cell_of_row _ _ _ _ _ _ y5 : W5.cell? ⟨w.heap.size, 0, none⟩ = _)
  have hrW : W3.heap.size ≤ W4.heap.size := hb4.size
  have hp3 : 0 < W3.heap.size := Nat.lt_of_lt_of_le hpos hb03.size
  clear D0 y5 hfr hb4 hb5 na nl r5 hba tk3
  go_wp2
  clear hW5 c0
  go_loopw [37] (fun i wr => ∃ k : Nat, k ≤ bs.length ∧ i = .int .i64 k ∧ Cps w.heap.size W3 0 nw bt (fun _ => 0) (fun _ _ => false) (fun _ => 0) (fun _ => zeroT) W4.heap.size (sumCap (st.take k)).toNat (MsL bs t.size a' e' cl k) wr)
    (fun i _ => bs.length - (intOf i).toNat)
  case atStart => exact ⟨0, Nat.zero_le _, rfl, hX⟩
  case round =>
    clear hX
    obtain ⟨k, hk, rfl, n', ga', gl', b0, hr, hn', hX'⟩ := hrel
    have hbw : Below w.heap.size w wr := hX'.kp.below hb03 rfl
    by_cases hlt : k < bs.length
    · obtain ⟨b, o, nv, bd, rfl, Hn, hbl, c0, c1, c2, hnv⟩ := hc.elem hbw hlt
      obtain ⟨nao, ncap, rfl, hnm, hnc⟩ := hnv
      obtain ⟨wa, hwa⟩ : ∃ wa, wr.alloc (.cells #[.bool bd.bol, .bool bd.eol, .slice nao bd.nodes.length ncap] 37) = wa := ⟨_, rfl⟩
      have hba : Below wr.heap.size wr wa := by rw [← hwa]; exact (Below.refl _ _).alloc (Nat.le_refl _) _
      have xa : wa.heap[wr.heap.size]? = some (.cells #[.bool bd.bol, .bool bd.eol, .slice nao bd.nodes.length ncap] 37 (0, 0)) := by rw [← hwa]; exact heap_alloc_new _ _
      obtain ⟨d0, d1, d2, -, -, -⟩ := row_threeF xa
      have hmb := mayBegin_ok bd.bol bd.eol nao bd.nodes.length ncap a' wa
      have hla : wr.heap.size < wa.heap.size := (Array.getElem?_eq_some_iff.1 xa).1
      have Hpl : Hid (placedB (bs.getD k .zero).bol (bs.getD k .zero).eol t.size a' e' cl = ((a' == 0 || !bd.bol) && ((cl && e' == t.size) || !bd.eol))) := by show _ = _; rw [Hn.out, placed_may]
      have hks : k < st.length := by have := Hst.out; omega
      have Hs := Hsum.out k hks
      have Hskip : Hid (placedB (bs.getD k .zero).bol (bs.getD k .zero).eol t.size a' e' cl = false → ∀ W : World, Below wr.heap.size wr W → Cps w.heap.size W3 0 nw bt (fun _ => 0) (fun _ _ => false) (fun _ => 0) (fun _ => zeroT) W4.heap.size (sumCap (st.take (k + 1))).toNat (MsL bs t.size a' e' cl (k + 1)) W) := fun hp W hb => ⟨n', ga', gl', b0, (hb.block _ (Array.getElem?_eq_some_iff.1 hr).1).trans hr, by omega, (hX'.below hb).words (fun u => msL_skip bs t.size a' e' cl k hp u)⟩
      have hi0 : (0 : Int) ≤ (k : Int) := by omega
      have hi1 : (k : Int) < (bs.length : Int) := by omega
      cases hm1 : (a' == 0 || !bd.bol)
      · rw [hm1] at hmb
        go_wp2_with (go_at_call 18; refine hmb.mono ?_; rintro r w1 ⟨rfl, hb1⟩)
        go_roundw
        case rel => exact ⟨k + 1, by omega, by go_num, Hskip.out (by rw [Hpl.out, hm1, Bool.false_and]) _ (hba.trans (hb1.mono hba.size))⟩
        case measure => simp [intOf]; omega
      rw [hm1] at hmb
      have hme := fun (W : World) => mayEnd_ok bd.bol bd.eol cl nao bd.nodes.length ncap t e' W
      cases hm2 : ((cl && e' == t.size) || !bd.eol)
      · rw [hm2] at hme
        go_wp2_with (first | (go_at_call 18; refine hmb.mono ?_; rintro r w1 ⟨rfl, hb1⟩; obtain ⟨z0, z1, z2, -, -, -⟩ := row_threeF ((hb1.block _ hla).trans xa)) | (go_at_call 19; refine (hme _).mono ?_; rintro r w2 ⟨rfl, hb2⟩))
        go_roundw
        case rel => exact ⟨k + 1, by omega, by go_num, Hskip.out (by rw [Hpl.out, hm1, hm2]; rfl) _ (hba.trans ((hb1.trans (hb2.mono hb1.size)).mono hba.size))⟩
        case measure => simp [intOf]; omega
      rw [hm2] at hme
      obtain ⟨tt, x, hxs, p, hT3, hwp, hin⟩ := ht3.2.1 k hks
      have Hin : Hid (∀ u, In p u ↔ In (tOf (bs.getD k .zero).nodes ((bs.getD k .zero).nodes.length - 1)) u) := fun u => by
        have e1 : (btrees bs).getD k ptNone = tOf (bs.getD k .zero).nodes ((bs.getD k .zero).nodes.length - 1) := by
          rw [List.getD_eq_getElem?_getD]
          simp [btrees, hlt]
        rw [← e1]; exact hin u
      have Htk : Hid (placedB (bs.getD k .zero).bol (bs.getD k .zero).eol t.size a' e' cl = true) := by show _ = _; rw [Hpl.out, hm1, hm2]; rfl
      have hl1 := Hall.out (k + 1) (by omega)
      have Hwp : Hid ((sumCap (st.take (k + 1))).toNat = (sumCap (st.take k)).toNat + (wPt p).toNat) := by show _ = _; rw [hwp]; omega
      have hstep := fun (W : World) (hb : Below wr.heap.size wr W) => alt_step (TreeAt.keep (.of hb) p _ (TreeAt.keep hX'.kp.keepM p _ hT3)) (by omega) (hX'.below hb) ((hb.block _ (Array.getElem?_eq_some_iff.1 hr).1).trans hr) hn' (by have := Hnw.out; have := Hwp.out; omega)
      have hprt : ∀ (W : World), Below wr.heap.size wr W → W.cell? ⟨g, k, none⟩ = some (.iface tt x) ∧ W.cell? ⟨W4.heap.size, 0, none⟩ = some (.bool b0) ∧ W.cell? ⟨W4.heap.size, 1, none⟩ = some (.slice (some ⟨ga', 0, none⟩) nw nw) ∧ W.cell? ⟨W4.heap.size, 2, none⟩ = some (.slice (some ⟨gl', 0, none⟩) nw nw) := fun W hb => by
        have hg := hX'.kp.typ _ _ _ hc3 (by decide) (by decide) (by decide)
        have hg2 := (hb.block g (Array.getElem?_eq_some_iff.1 hg).1).trans hg
        obtain ⟨q0, q1, q2, -, -, -⟩ := row_threeF ((hb.block _ (Array.getElem?_eq_some_iff.1 hr).1).trans hr)
        exact ⟨by rw [cell_of_row _ _ _ _ _ _ hg2, hcx k hks]; exact hxs, q0, q1, q2⟩
      have hi2 : (k : Int) < (st.length : Int) := by omega
      clear Hs hl1 hwp hin hT3 Hskip Hpl hn' hX' hr hxs
      go_wp2_with (first | (go_at_call 18; refine hmb.mono ?_; rintro r w1 ⟨rfl, hb1⟩; obtain ⟨z0, z1, z2, -, -, -⟩ := row_threeF ((hb1.block _ hla).trans xa)) | (go_at_call 19; refine (hme _).mono ?_; rintro r w2 ⟨rfl, hb2⟩))
      have hbx : Below wr.heap.size wr w2 := hba.trans ((hb1.trans (hb2.mono hb1.size)).mono hba.size)
      have hw := hstep w2 hbx
      obtain ⟨q, q0, q1, q2⟩ := hprt w2 hbx
      clear hstep hprt hme hmb z0 z1 z2 d0 d1 d2 c0 c1 c2 hwa
      go_region_law ((first | (refine step_goE (by rfl) 21 #[.tmp 54, .tmp 58] #[44, 57] (by rfl) #[.pointer (some ⟨bt, 0, none⟩), .iface tt x] (by simp [Act.eval]) _ (enterWrite _ _) hw ?_; rintro _ w4 ⟨n2, ha, hl, c, rfl, Hn2, ⟨z0, z1, z2⟩, HX, hsq⟩) | (refine step_go (by rfl) 20 #[.tmp 52, .tmp 53, .tmp 59] #[44, 50, 50] (by rfl) _ (by simp [Act.eval]) _ _ (enterEither _ _) hsq ?_; rintro w5 ⟨D5, hKU⟩; have y0 := hKU _ _ _ HX.out (by decide); obtain ⟨k0, k1, k2, f0, f1, f2⟩ := row_threeF y0)))
      all_goals
        obtain ⟨q5, q6⟩ := D5.put3 y0 hrW hp3 (.bool (b0 || c)) (.slice (some ⟨ga', 0, none⟩) nw nw) (.slice (some ⟨gl', 0, none⟩) nw nw)
        clear hw hsq y0 hKU HX z0 z1 z2 q q0 q1 q2 D5 k0 k1 k2 f0 f1 f2
        generalize ((w5.setCell ⟨W4.heap.size, 0, none⟩ (.bool (b0 || c))).setCell ⟨W4.heap.size, 1, none⟩ (.slice (some ⟨ga', 0, none⟩) nw nw)).setCell ⟨W4.heap.size, 2, none⟩ (.slice (some ⟨gl', 0, none⟩) nw nw) = w6 at *
        go_wp2
        go_roundw
        case rel => exact ⟨k + 1, by omega, by go_num, n2, ga', gl', b0 || c, q6, by have := Hn2.out; have := Hwp.out; omega, q5.words (fun u => msL_take bs t.size a' e' cl k Htk.out p Hin.out u)⟩
        case measure => simp [intOf]; omega
    · have hkk : k = bs.length := by omega
      subst hkk
      obtain ⟨sv5, fv5, mk5, f5, fr5, F5, A5, L5, D⟩ := hX'
      obtain ⟨q0, q1, q2, -, -, -⟩ := row_threeF hr
      have hbd : Below wr.heap.size wr wr.drew := (Below.refl _ _).drew
      have hsz : (t.extract a' e').size ≤ 4096 := by rw [ByteArray.size_extract]; omega
      have hrd := reads_ok (D.tk.below hbd) (D.fg.below hbd) D.good (fun p hp => hp.2) (t.extract a' e') hsz
      rw [ext_listM] at hrd
      have hlr : W4.heap.size < wr.heap.size := (Array.getElem?_eq_some_iff.1 hr).1
      clear D hn'
      go_wp2
      go_region_held3 (fun w' => w'.cell? ⟨W4.heap.size, 0, none⟩ = some (.bool b0) ∧ w'.cell? ⟨W4.heap.size, 1, none⟩ = some (.slice (some ⟨ga', 0, none⟩) nw nw) ∧ w'.cell? ⟨W4.heap.size, 2, none⟩ = some (.slice (some ⟨gl', 0, none⟩) nw nw)) ((first | exact ⟨q0, q1, q2⟩ | exact ⟨(hbz.cell hlr).trans q0, (hbz.cell hlr).trans q1, (hbz.cell hlr).trans q2⟩ | go_keep)) ((go_at_call 22; refine hrd.mono ?_; rintro r w7 ⟨rb, rfl, hiff, hbz⟩))
      go_wp2
      go_ret
      exact ⟨rb, rfl, hiff.trans Hyes.out.symm, hbw.trans ((hbd.trans hbz).mono hbw.size)⟩
end Go.Proofs.YthgaeaihfbiolaaDoor
