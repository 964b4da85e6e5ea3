import Derived.Test.YtipndbhedaknnaaDoorPrgH
namespace Go.Proofs.YtipndbhedaknnaaDoor
open Go.RowKit
attribute [local go_sem ↓] Go.wp_at_zero Go.wp_at_succ

/-- As 'Below', and one block besides is as it was. -/
structure BelX (B X : Nat) (w w' : World) : Prop where
  bel : Below B w w'
  at_ : w'.heap[X]? = w.heap[X]?
theorem BelX.refl (B X : Nat) (w : World) : BelX B X w w := ⟨Below.refl _ _, rfl⟩
theorem BelX.setCell {B X : Nat} {w w' : World} (h : BelX B X w w') {p : Addr} (hp : B ≤ p.block ∧ p.block ≠ X) (v : Value) : BelX B X w (w'.setCell p v) :=
  ⟨h.bel.setCell hp.1 v, (Below.heap_setCell _ _ _ _ (by have := hp.2; omega)).trans h.at_⟩
theorem BelX.step {B X : Nat} {w w1 w2 : World} (h : BelX B X w w1) (hB : B ≤ w.heap.size) (hX : X < w.heap.size) (k : Below w1.heap.size w1 w2) : BelX B X w w2 :=
  ⟨below_step h.bel (Nat.le_trans hB h.bel.size) k, (k.block X (Nat.lt_of_lt_of_le hX h.bel.size)).trans h.at_⟩

set_option maxRecDepth 100000 in
set_option maxHeartbeats 8000000 in
theorem markStateS_ok {B X : Nat} (v : Value) (cv : Nat → Value) (ss : List StD) (k : Nat) (w : World) (h : PrV B w v cv ss) (hB : B ≤ w.heap.size) (hX : X < w.heap.size) (hxv : v.ownBlock ≠ some X) (hxc : ∀ i, i < ss.length → (cv i).ownBlock ≠ some X) (h1 : k ≤ 1000) (hl : ss.length ≤ 200) (hcs : ∀ s ∈ ss, s.cases.length ≤ 100) :
    Calls Tryd.prog 24 #[v, .int .i64 k] w fun e w' => e = .returned (.int .i64 (endK k ss : Nat)) ∧ PrV B w' v cv (mkSts k ss) ∧ BelX B X w w' := by
  rcases h.row.2 with ⟨rfl, hn0⟩ | ⟨sg, cap, cur, rfl, hg, r⟩
  · have : ss = [] := List.eq_nil_of_length_eq_zero hn0
    subst this
    go_enter Tryd.func24, Tryd.ntmps24
    go_wp2
    go_loop [1, 5] (fun kk i => kk = .int .i64 k ∧ i = .int .i64 0) (fun _ _ => 0)
    case atStart => exact ⟨rfl, rfl⟩
    case round =>
      obtain ⟨rfl, rfl⟩ := hrel
      go_wp2
      go_ret
      exact ⟨rfl, h, BelX.refl _ _ _⟩
  · clear r
    have hgx : B ≤ sg ∧ sg ≠ X := ⟨hg, fun e => hxv (by rw [e]; rfl)⟩
    go_enter Tryd.func24, Tryd.ntmps24
    go_wp2
    go_loopw [1, 5] (fun kk i wr => ∃ (P R : List StD), Hid (ss = P ++ R) ∧ P.length ≤ ss.length ∧ i = .int .i64 P.length ∧ kk = .int .i64 (endK k P : Nat) ∧ PrV B wr (.slice (some ⟨sg, 0, none⟩) ss.length cap) cv (mkSts k P ++ R) ∧ BelX B X w wr)
      (fun _ i _ => ss.length - (intOf i).toNat)
    case atStart => exact ⟨[], ss, rfl, Nat.zero_le _, rfl, rfl, h, BelX.refl _ _ _⟩
    case round =>
      obtain ⟨P, R, HE, hP, rfl, rfl, hV, hb⟩ := hrel
      cases R with
      | nil =>
        have hPe : Hid (P = ss) := by show _ = _; have := HE.out; simpa using this.symm
        have hlen : P.length = ss.length := by rw [hPe.out]
        have hi1 : ¬(P.length : Int) < (ss.length : Int) := by omega
        obtain ⟨q, hq⟩ : ∃ q, endK k P = q := ⟨_, rfl⟩
        obtain ⟨pl, hpl⟩ : ∃ pl, P.length = pl := ⟨_, rfl⟩
        have HQ : Hid _ := hq
        rw [hq]
        rw [hpl] at hi1 ⊢
        clear hlen hpl hq
        go_wp2
        go_ret
        refine ⟨?_, ?_, hb⟩
        · rw [show endK k ss = q by rw [← hPe.out]; exact HQ.out]; rfl
        · rw [show mkSts k ss = mkSts k P by rw [hPe.out]]; simpa using hV
      | cons s D =>
        have hlt : P.length < ss.length := by have := HE.out; rw [this]; simp
        have hsc : s.cases.length ≤ 100 := hcs s (by have := HE.out; rw [this]; simp)
        have hq9 : endK k P ≤ 100000 := by
          have := endK_le k P (fun s hs => hcs s (by have := HE.out; rw [this]; simp [hs]))
          omega
        have hA : (mkSts k P).length = P.length := mkSts_len k P
        have HM : Hid (mkSts k (P ++ [s]) = mkSts k P ++ [mkSt (endK k P) s]) := mkSts_app k P s
        have HK : Hid (endK k (P ++ [s]) = endK k P + 4 * s.cases.length + 9) := endK_app k P s
        have HE2 : Hid (ss = (P ++ [s]) ++ D) := by show _ = _; have := HE.out; rw [this]; simp
        have HL : Hid ((P ++ [s]).length = P.length + 1) := by show _ = _; simp
        generalize mkSts k P = A at *
        generalize endK k P = q at *
        clear HE
        rw [← hA] at hlt hP HL ⊢
        obtain ⟨nc, hnc⟩ : ∃ nc, s.cases.length = nc := ⟨_, rfl⟩
        have HS : Hid (mkSt q s = ⟨mkCs q nc, ((q : Int) + 4 * (nc : Int)), ⟨((q : Int) + 4 * (nc : Int) + 1), ((q : Int) + 4 * (nc : Int) + 2), markF (q + 4 * nc + 3)⟩, fullF ((q : Int) + 4 * (nc : Int) + 4), ⟨((q : Int) + 4 * (nc : Int) + 5), ((q : Int) + 4 * (nc : Int) + 6), markF (q + 4 * nc + 7)⟩, ((q : Int) + 4 * (nc : Int) + 8)⟩) := by
          show _ = _
          unfold mkSt
          rw [hnc]
          push_cast
          rfl
        obtain ⟨cs, tmo, ⟨a1, a2, a3⟩, fl, ⟨b1, b2, b3⟩, eof⟩ := s
        dsimp only at hnc hsc HK
        have c0 := (hV.mid 0 (by omega)).1
        simp only [stCells, List.getElem?_cons_zero, Nat.add_zero] at c0
        have own0 := hV.midC
        dsimp only at own0
        have hmk := fun (W : World) (hW : W.ownsRow B 47 4 (cv A.length) cs.length (csCells cs)) => markCaseS_ok (B := B) (cv A.length) cs q W hW (by omega) (by omega)
        obtain ⟨u0, hu0⟩ : ∃ u0, cv A.length = u0 := ⟨_, rfl⟩
        have hxu := hxc A.length hlt
        rw [hu0] at c0 own0 hmk hxu
        have hi0 : (0 : Int) ≤ (A.length : Int) := by omega
        have hi1 : (A.length : Int) < (ss.length : Int) := by omega
        have Hnc : Hid _ := hnc
        have Hu0 : Hid _ := hu0
        rw [hnc] at hmk hsc HK
        clear hnc hu0 hA
        rw [show ((q + 4 * nc : Nat) : Int) = (q : Int) + 4 * (nc : Int) by omega] at hmk
        have hm3 := fun (W : World) (ki : Int) (hki : ki = (q + 4 * nc + 3 : Nat)) => markText_ok (q + 4 * nc + 3) ki W hki (by omega)
        have hm7 := fun (W : World) (ki : Int) (hki : ki = (q + 4 * nc + 7 : Nat)) => markText_ok (q + 4 * nc + 7) ki W hki (by omega)
        obtain ⟨m3, hs3⟩ : ∃ m3 : ByteArray, strV (markF (q + 4 * nc + 3)) = .string m3 := ⟨_, rfl⟩
        obtain ⟨m7, hs7⟩ : ∃ m7 : ByteArray, strV (markF (q + 4 * nc + 7)) = .string m7 := ⟨_, rfl⟩
        rw [hs3] at hm3
        rw [hs7] at hm7
        go_wp2_with fail
        refine (hmk wr (by rw [← Hnc.out]; exact own0)).mono ?_
        rintro e w1 ⟨rfl, own1, gr1⟩
        have hV1 : PrV B w1 (.slice (some ⟨sg, 0, none⟩) ss.length cap) cv (A ++ ⟨mkCs q nc, tmo, ⟨a1, a2, a3⟩, fl, ⟨b1, b2, b3⟩, eof⟩ :: D) := hV.casMid (cs := mkCs q nc) (by rw [mkCs_len]; exact Hnc.out.symm) (by show w1.ownsRow B _ 4 (cv A.length) cs.length _; rw [Hnc.out, Hu0.out]; exact own1) (by rw [Hu0.out]; exact gr1)
        have b1' : BelX B X w w1 := ⟨⟨gr1.os.trans hb.bel.os, gr1.tape.trans hb.bel.tape, gr1.output.trans hb.bel.output, Nat.le_trans hb.bel.size gr1.size, fun i hi => (gr1.block i (by have := hb.bel.size; omega) (fun e => by have := (ownsRow_blk own0 e.symm).1; omega)).trans (hb.bel.block i hi)⟩, (gr1.block X (by have := hb.bel.size; omega) (fun e => hxu e.symm)).trans hb.at_⟩
        clear own1 gr1 own0 hV hb hmk c0
        obtain ⟨c1, f1⟩ := hV1.mid 1 (by omega)
        obtain ⟨c2, f2⟩ := hV1.mid 2 (by omega)
        obtain ⟨c3, f3⟩ := hV1.mid 3 (by omega)
        simp only [stCells, List.getElem?_cons_succ, List.getElem?_cons_zero] at c1 c2 c3
        have hV2 := (((hV1.setMid (c := 1) (s' := ⟨mkCs q nc, ((q : Int) + 4 * (nc : Int)), ⟨a1, a2, a3⟩, fl, ⟨b1, b2, b3⟩, eof⟩) (by omega) rfl rfl).setMid (c := 2) (s' := ⟨mkCs q nc, ((q : Int) + 4 * (nc : Int)), ⟨((q : Int) + 4 * (nc : Int) + 1), a2, a3⟩, fl, ⟨b1, b2, b3⟩, eof⟩) (by omega) rfl rfl).setMid (c := 3) (s' := ⟨mkCs q nc, ((q : Int) + 4 * (nc : Int)), ⟨((q : Int) + 4 * (nc : Int) + 1), ((q : Int) + 4 * (nc : Int) + 2), a3⟩, fl, ⟨b1, b2, b3⟩, eof⟩) (by omega) rfl rfl)
        have b2' := ((b1'.setCell (p := ⟨sg, A.length * 10 + 1, none⟩) (by exact hgx) (.int .i64 ((q : Int) + 4 * (nc : Int)))).setCell (p := ⟨sg, A.length * 10 + 2, none⟩) (by exact hgx) (.int .i64 ((q : Int) + 4 * (nc : Int) + 1))).setCell (p := ⟨sg, A.length * 10 + 3, none⟩) (by exact hgx) (.int .i64 ((q : Int) + 4 * (nc : Int) + 2))
        clear hV1 b1'
        go_wp2_with fail
        refine (hm3 _ _ (by omega)).mono ?_
        rintro e w2 ⟨rfl, hb2⟩
        have hV3 := hV2.below hb2
        have b3' := BelX.step b2' hB hX hb2
        clear hV2 b2' hb2 c1 c2 c3 f1 f2 f3
        obtain ⟨c4, f4⟩ := hV3.mid 4 (by omega)
        obtain ⟨c5, f5⟩ := hV3.mid 5 (by omega)
        obtain ⟨c6, f6⟩ := hV3.mid 6 (by omega)
        obtain ⟨c7, f7⟩ := hV3.mid 7 (by omega)
        simp only [stCells, List.getElem?_cons_succ, List.getElem?_cons_zero] at c4 c5 c6 c7
        have hV4 := ((((hV3.setMid (c := 4) (s' := ⟨mkCs q nc, ((q : Int) + 4 * (nc : Int)), ⟨((q : Int) + 4 * (nc : Int) + 1), ((q : Int) + 4 * (nc : Int) + 2), (markF (q + 4 * nc + 3))⟩, fl, ⟨b1, b2, b3⟩, eof⟩) (by omega) rfl rfl).setMid (c := 5) (s' := ⟨mkCs q nc, ((q : Int) + 4 * (nc : Int)), ⟨((q : Int) + 4 * (nc : Int) + 1), ((q : Int) + 4 * (nc : Int) + 2), (markF (q + 4 * nc + 3))⟩, (fullF ((q : Int) + 4 * (nc : Int) + 4)), ⟨b1, b2, b3⟩, eof⟩) (by omega) rfl rfl).setMid (c := 6) (s' := ⟨mkCs q nc, ((q : Int) + 4 * (nc : Int)), ⟨((q : Int) + 4 * (nc : Int) + 1), ((q : Int) + 4 * (nc : Int) + 2), (markF (q + 4 * nc + 3))⟩, (fullF ((q : Int) + 4 * (nc : Int) + 4)), ⟨((q : Int) + 4 * (nc : Int) + 5), b2, b3⟩, eof⟩) (by omega) rfl rfl).setMid (c := 7) (s' := ⟨mkCs q nc, ((q : Int) + 4 * (nc : Int)), ⟨((q : Int) + 4 * (nc : Int) + 1), ((q : Int) + 4 * (nc : Int) + 2), (markF (q + 4 * nc + 3))⟩, (fullF ((q : Int) + 4 * (nc : Int) + 4)), ⟨((q : Int) + 4 * (nc : Int) + 5), ((q : Int) + 4 * (nc : Int) + 6), b3⟩, eof⟩) (by omega) rfl rfl)
        have b4' := (((b3'.setCell (p := ⟨sg, A.length * 10 + 4, none⟩) (by exact hgx) (.string m3)).setCell (p := ⟨sg, A.length * 10 + 5, none⟩) (by exact hgx) (.bool (fullF ((q : Int) + 4 * (nc : Int) + 4)))).setCell (p := ⟨sg, A.length * 10 + 6, none⟩) (by exact hgx) (.int .i64 ((q : Int) + 4 * (nc : Int) + 5))).setCell (p := ⟨sg, A.length * 10 + 7, none⟩) (by exact hgx) (.int .i64 ((q : Int) + 4 * (nc : Int) + 6))
        rw [hs3] at hV4
        clear hV3 b3'
        go_wp2_with fail
        refine (hm7 _ _ (by omega)).mono ?_
        rintro e w3 ⟨rfl, hb3⟩
        have hV5 := hV4.below hb3
        have b5' := BelX.step b4' hB hX hb3
        clear hV4 b4' hb3 c4 c5 c6 c7 f4 f5 f6 f7
        obtain ⟨c8, f8⟩ := hV5.mid 8 (by omega)
        obtain ⟨c9, f9⟩ := hV5.mid 9 (by omega)
        simp only [stCells, List.getElem?_cons_succ, List.getElem?_cons_zero] at c8 c9
        have hV6 := ((hV5.setMid (c := 8) (s' := ⟨mkCs q nc, ((q : Int) + 4 * (nc : Int)), ⟨((q : Int) + 4 * (nc : Int) + 1), ((q : Int) + 4 * (nc : Int) + 2), (markF (q + 4 * nc + 3))⟩, (fullF ((q : Int) + 4 * (nc : Int) + 4)), ⟨((q : Int) + 4 * (nc : Int) + 5), ((q : Int) + 4 * (nc : Int) + 6), (markF (q + 4 * nc + 7))⟩, eof⟩) (by omega) rfl rfl).setMid (c := 9) (s' := ⟨mkCs q nc, ((q : Int) + 4 * (nc : Int)), ⟨((q : Int) + 4 * (nc : Int) + 1), ((q : Int) + 4 * (nc : Int) + 2), (markF (q + 4 * nc + 3))⟩, (fullF ((q : Int) + 4 * (nc : Int) + 4)), ⟨((q : Int) + 4 * (nc : Int) + 5), ((q : Int) + 4 * (nc : Int) + 6), (markF (q + 4 * nc + 7))⟩, ((q : Int) + 4 * (nc : Int) + 8)⟩) (by omega) rfl rfl)
        rw [hs7] at hV6
        have b6' := (b5'.setCell (p := ⟨sg, A.length * 10 + 8, none⟩) (by exact hgx) (.string m7)).setCell (p := ⟨sg, A.length * 10 + 9, none⟩) (by exact hgx) (.int .i64 ((q : Int) + 4 * (nc : Int) + 8))
        clear hV5 b5'
        have HV : Hid _ := hV6
        have HB : Hid _ := b6'
        clear hV6 b6'
        go_wp2
        go_roundw
        case rel => exact ⟨P ++ [⟨cs, tmo, ⟨a1, a2, a3⟩, fl, ⟨b1, b2, b3⟩, eof⟩], D, HE2, by rw [HL.out]; omega, by rw [HL.out]; go_num, by
          rw [HK.out]
          have : ((q + 4 * nc + 9 : Nat) : Int) = (q : Int) + 4 * (nc : Int) + 1 + 1 + 1 + 1 + 1 + 1 + 1 + 1 + 1 := by omega
          rw [this], by
          rw [HM.out, HS.out, List.append_assoc]
          exact HV.out, HB.out⟩
        case measure => simp [intOf]; omega
end Go.Proofs.YtipndbhedaknnaaDoor
