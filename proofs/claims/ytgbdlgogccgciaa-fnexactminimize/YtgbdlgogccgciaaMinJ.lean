import Derived.Test.YtgbdlgogccgciaaMinQ
import Derived.Test.YtgbdlgogccgciaaLst
namespace Go.Proofs.Ytgbdlgogccgciaa
open Go.RowKit
attribute [local go_sem ↓] Go.wp_at_zero Go.wp_at_succ
attribute [local go_sem ↓] append_appD

set_option maxRecDepth 100000 in
set_option maxHeartbeats 8000000 in
theorem specMinimize_t {lo : Nat} (cv nv tv ev : Value) (d : DfaD) (w : World) (hs : DfaAt lo w cv nv tv ev d) (hB : dfaB d = true) :
    Calls Try.prog 5 #[.agg #[cv, .int .i64 d.width, nv, tv, ev]] w (MinP w d) := by
  have hf := dfaB_fine hB
  obtain ⟨i0, hi, hz0, hz1, hz2⟩ := info_parts Try.infoInt
  obtain ⟨iS, hjS, hyS0, hyS1, hyS2⟩ := info_parts Try.infoIntsD
  replace hs := hs.low (Nat.zero_le _)
  have hn1 := hf.n1
  have hn2 := hf.n2
  have hs1 := hs
  obtain ⟨⟨ca, cc, rfl, cm, cx⟩, ⟨na, nc, rfl, nm, nx⟩, ⟨ta, tc, rfl, tm, tx⟩, ⟨ea, ec, rfl, em, ex⟩⟩ := hs1
  obtain ⟨tb, to2, rfl, _, tl, tq⟩ := tx (by omega)
  obtain ⟨eb, eo2, rfl, _, el, eq⟩ := ex (by have := hf.fl; omega)
  generalize hcv : Value.slice ca d.classes.length cc = cv at *
  generalize hnv : Value.slice na d.next.length nc = nv at *
  clear cm nm cx nx tx ex hcv hnv
  obtain ⟨W0, hW0⟩ : ∃ W0, (w.alloc (.cells #[cv, .int .i64 d.width, nv, .slice (some ⟨tb, to2, none⟩) d.tag.length tc, .slice (some ⟨eb, eo2, none⟩) d.fin.length ec] 26)).alloc (.cells zeroD 26) = W0 := ⟨_, rfl⟩
  have hb0 : Below w.heap.size w W0 := by rw [← hW0]; exact ((Below.refl _ _).alloc (Nat.le_refl _) _).alloc (by simp) _
  have x0 : W0.heap[w.heap.size]? = some (.cells #[cv, .int .i64 d.width, nv, .slice (some ⟨tb, to2, none⟩) d.tag.length tc, .slice (some ⟨eb, eo2, none⟩) d.fin.length ec] 26 (0, 0)) := by
    rw [← hW0]
    exact (Below.heap_alloc _ _ _ (by simp)).trans (heap_alloc_new w _)
  have z0 : W0.heap[w.heap.size + 1]? = some (.cells zeroD 26 (0, 0)) := by
    rw [← hW0]
    have := heap_alloc_new (w.alloc (.cells #[cv, .int .i64 d.width, nv, .slice (some ⟨tb, to2, none⟩) d.tag.length tc, .slice (some ⟨eb, eo2, none⟩) d.fin.length ec] 26)) (.cells zeroD 26)
    simpa using this
  have hT := specDfaOK_ok cv nv _ _ d _ (hs.below hb0)
  rw [hB] at hT
  unfold zeroD at hW0
  have c0 := row_five x0
  obtain ⟨q0, q1, q2, q3, q4⟩ := c0
  go_enter Try.func5, Try.ntmps5
  go_wp2_with fail
  refine hT.mono ?_
  rintro e w1 ⟨rfl, hb1⟩
  have x1 := row_below x0 hb1
  have z1 := row_below z0 hb1
  have B1 := below_step hb0 hb0.size hb1
  clear q0 q1 q2 q3 q4 hT x0 z0 hb0 hb1
  obtain ⟨q0, q1, q2, q3, q4⟩ := row_five x1
  have hL := l2Reached_ok cv nv _ _ d w1 (hs.below B1) hf
  go_wp2_with fail
  refine hL.mono ?_
  rintro e w2 ⟨g, cap, l, rfl, hown, hR, hb2⟩
  have x2 := row_below x1 hb2
  have z2 := row_below z1 hb2
  have B2 := below_step B1 B1.size hb2
  clear q0 q1 q2 q3 q4 hL x1 z1
  obtain ⟨q0, q1, q2, q3, q4⟩ := row_five x2
  have hlen := nodup_le _ l hR.nd hR.lt
  have hA := l2Apart_ok cv nv _ _ (.slice (some ⟨g, 0, none⟩) l.length cap) d l w2 (hs.below B2) hf ((own_ints hown (by omega)).low (Nat.zero_le _)) hR
  go_wp2_with fail
  refine hA.mono ?_
  rintro e w3 ⟨v, gr, m, B, rfl, hB3, hM, hb3, hm⟩
  have x3 := row_below x2 hb3
  have z3 := row_below z2 hb3
  have B3 := below_step B2 B2.size hb3
  have o3 := ownsRow_below hown hb3
  clear q0 q1 q2 q3 q4 hA x2 z2 hown
  obtain ⟨q0, q1, q2, q3, q4⟩ := row_five x3
  obtain ⟨ga, capa, rfl, hga, hga2, hgo⟩ := hM.outer hR.pos
  have HM : Hid (∀ W, Below w3.heap.size w3 W → MatI B W l.length l.length (.slice (some ⟨ga, 0, none⟩) l.length capa) gr m) := fun W h => hM.below h
  have hgl := own_lt o3
  have HL : Hid (∀ W, Below w3.heap.size w3 W → ∀ j, j < l.length → W.cell? ⟨g, j, none⟩ = some (.int .i64 ((l.getD j 0 : Nat) : Int))) := fun W h j hj => by rw [h.cell (p := ⟨g, j, none⟩) hgl, o3.cellAt j (by omega), natL_get _ hj]
  clear hM hga hga2 o3 hb2 hb3 hgo hW0
  go_wp2_with (refine wpList_make_full _ rfl _ _ 22 rfl w3.heap.size 3 i0 _ 1 Try.underlying22 hi hz0 hz1 _ _ _ _ d.tag.length rfl rfl rfl rfl (by rw [hz2]; omega) (by unfold maxLen; omega) (Nat.le_refl _) ?_; intro w4 hown4 hgrow4)
  have hb4 : Below w3.heap.size w3 w4 := (Below.refl _ _).grown hgrow4 (Nat.le_refl _) (by intro k h; cases h)
  rw [made_nats] at hown4
  clear hgrow4 q0 q1 q2 q3 q4
  go_loopw [43] (fun i wr => ∃ k : Nat, k ≤ l.length ∧ i = .int .i64 k ∧ Below w3.heap.size w3 wr ∧ ∃ zs : List Nat, Hid (ChL l m zs d.tag.length k) ∧ wr.ownsRow w3.heap.size 3 1 (.slice (some ⟨w3.heap.size, 0, none⟩) d.tag.length d.tag.length) d.tag.length (natL zs))
    (fun i _ => l.length - (intOf i).toNat)
  case atStart => exact ⟨0, Nat.zero_le _, rfl, hb4, _, ⟨by simp, fun j hj => absurd hj (Nat.not_lt_zero _)⟩, hown4⟩
  case round =>
    clear hown4 hb4
    obtain ⟨k, hk, rfl, hb5, zs, HC, hown⟩ := hrel
    obtain ⟨W5, hW5⟩ : ∃ W5, W5 = wr := ⟨_, rfl⟩
    subst hW5
    by_cases hlt : k < l.length
    · have hi1 : (k : Int) < (l.length : Int) := by omega
      have c0 := HL.out _ hb5 k hlt
      have hM5 := HM.out _ hb5
      have o5 := hM5.out1 hlt
      have Hc5 : Hid (∀ q, q < l.length → W5.cell? ⟨gr k, q, none⟩ = some (.bool (m k q))) := fun q hq => (hM5.cell hlt hq).1
      have Hkk : Hid (m k k = false) := (hm k k hlt hlt).2 (Alike.refl _ _ _)
      have hsl := hR.lt _ (getD_mem hlt)
      have HNx : Hid (∀ q, q < l.length → m k q = false → (∀ j, j < q → m k j = true) → ChL l m (zs.set (l.getD k 0) (l.getD q 0)) d.tag.length (k + 1)) := fun q a b c => HC.out.next hR.nd hlt hsl a b c
      have Hst : Hid (∀ s1 : Nat, (W5.setCell ⟨w3.heap.size, l.getD k 0, none⟩ (.int .i64 (s1 : Int))).ownsRow w3.heap.size 3 1 (.slice (some ⟨w3.heap.size, 0, none⟩) d.tag.length d.tag.length) d.tag.length (natL (zs.set (l.getD k 0) s1))) := fun s1 => by
        have hst := (hown.stored (l.getD k 0) (.int .i64 (s1 : Int))).1
        rw [natL_set] at hst
        exact hst
      obtain ⟨u0, d0⟩ := own_cell hown (j := l.getD k 0) (by omega)
      have f0 := hown.frozenAt (l.getD k 0)
      have hi3 : ((l.getD k 0 : Nat) : Int) < (d.tag.length : Int) := by omega
      clear hM5
      generalize l.getD k 0 = s0 at *
      go_wp2
      go_loopw [8] (fun i wr => ∃ q : Nat, q ≤ k ∧ i = .int .i64 q ∧ wr = W5 ∧ Hid (∀ j, j < q → m k j = true))
        (fun i _ => l.length - (intOf i).toNat)
      case atStart => exact ⟨0, Nat.zero_le _, rfl, rfl, fun j hj => absurd hj (Nat.not_lt_zero _)⟩
      case round =>
        obtain ⟨q, hq, rfl, rfl, HJ⟩ := hrel
        have c1 := Hc5.out q (by omega)
        have hi2 : (q : Int) < (l.length : Int) := by omega
        cases hmq : m k q
        · rw [hmq] at c1
          have c2 := HL.out _ hb5 q (by omega)
          have HN : Hid _ := HNx.out q (by omega) hmq HJ.out
          generalize l.getD q 0 = s1 at *
          go_wp2
          go_roundw
          case rel => exact ⟨k + 1, by omega, by go_num, hb5.setCell (Nat.le_refl _) _, _, HN, Hst.out _⟩
          case measure => simp [intOf]; omega
        · rw [hmq] at c1
          have hqk : q ≠ k := fun e => by subst e; have := Hkk.out; rw [hmq] at this; cases this
          go_wp2
          go_roundw
          case rel => exact ⟨q + 1, by omega, by go_num, by first | exact rfl | trivial, fun j hj => by
            by_cases e : j = q
            · subst e; exact hmq
            · exact HJ.out j (by omega)⟩
          case measure => simp [intOf]; omega
    · have hkk : k = l.length := by omega
      subst hkk
      have hCh : ChI d l (fun s => zs.getD s 0) := HC.out.chief hm
      have HW5 : Hid (Below w.heap.size w W5) := below_step B3 B3.size hb5
      have x5 := row_below x3 hb5
      have z5 := row_below z3 hb5
      have hzs : zs.length = d.tag.length := HC.out.1
      have Hzc : Hid (∀ W, Below W5.heap.size W5 W → ∀ j, j < d.tag.length → W.cell? ⟨w3.heap.size, j, none⟩ = some (.int .i64 ((zs.getD j 0 : Nat) : Int))) := fun W h j hj => by
        have h1 := own_lt hown
        rw [h.cell (p := ⟨w3.heap.size, j, none⟩) h1, hown.cellAt j (by omega), natL_get _ (by omega)]
      have HCh : Hid _ := hCh
      have HR : Hid (RchD d l) := hR
      have HF : Hid (DfaFine d) := hf
      have HS0 : Hid (DfaAt 0 w _ _ _ _ d) := hs
      obtain ⟨gt, hgt⟩ : ∃ gt, W5.heap.size = gt + 1 := ⟨W5.heap.size - 1, by have := own_lt hown; omega⟩
      have HO0 : Hid _ := OrS.start (d := d) (x := zs.getD 0 0) hgt
      have HI0 : Hid _ := OsI.start hCh hR
      have cz := Hzc.out _ (Below.refl _ _) 0 (by omega)
      have Htx : Hid _ := tq
      have Hfx : Hid _ := eq
      have Hgt : Hid _ := hgt
      clear hCh HC hR hf hs B1 B2 B3 x3 z3 hb5 hown hzs HM HL hm tq eq hB hB3 hgt
      generalize zs.getD 0 0 = ch0 at *
      go_wp2
      go_loopw [9, 10, 11] (fun ov rv i wr => ∃ (k g1 c1 g2 c2 : Nat) (v : Nat → Value) (ls : Nat → List Int) (os : List Nat), i = .int .i64 k ∧ ov = .slice (some ⟨g1, 0, none⟩) os.length c1 ∧ rv = .slice (some ⟨g2, 0, none⟩) k c2 ∧ Hid (v 0 = .slice (some ⟨g1, 0, none⟩) os.length c1) ∧ Hid (OrS d W5 gt wr k (.slice (some ⟨g2, 0, none⟩) k c2) v ls os (k + 1)) ∧ Hid (OsI d l (fun s => zs.getD s 0) os k 0 ∧ Going (stN d) (anN d) k))
        (fun _ _ i _ => d.tag.length - (intOf i).toNat)
      case atStart => exact ⟨0, W5.heap.size, 1, W5.heap.size + 1, 0, (fun _ => .slice (some ⟨W5.heap.size, 0, none⟩) 1 1), (fun _ => [(ch0 : Int)]), [ch0], rfl, rfl, rfl, rfl, HO0.out, HI0.out, fun j hj => absurd hj (Nat.not_lt_zero _)⟩
      case round =>
        clear HO0 HI0 cz
        obtain ⟨k, g1, c1, g2, c2, v, ls, os, rfl, rfl, rfl, Hv0, HO, HI⟩ := hrel
        obtain ⟨W6, hW6⟩ : ∃ W6, W6 = wr := ⟨_, rfl⟩
        subst hW6
        have hol := HI.out.1.len HR.out
        by_cases hk : k < os.length
        · have hi6 : (k : Int) < (os.length : Int) := by omega
          have HO1 : Hid _ := HO.out.new (by omega)
          have HG : Hid (Going (stN d) (anN d) (k + 1)) := HI.out.2.next (by rw [← HI.out.1.al.length]; exact hk)
          go_wp2
          go_loopw [9, 12, 13] (fun ov rw i wr => ∃ (c g1 c1 g3 c3 : Nat) (v : Nat → Value) (ls : Nat → List Int) (os : List Nat), c ≤ 256 ∧ k < os.length ∧ i = .int .i64 c ∧ ov = .slice (some ⟨g1, 0, none⟩) os.length c1 ∧ rw = .slice (some ⟨g3, 0, none⟩) c c3 ∧ Hid (v 0 = .slice (some ⟨g1, 0, none⟩) os.length c1 ∧ v (k + 1) = .slice (some ⟨g3, 0, none⟩) c c3 ∧ ls (k + 1) = rowP d k c) ∧ Hid (OrS d W5 gt wr k (.slice (some ⟨g2, 0, none⟩) k c2) v ls os (k + 2)) ∧ Hid (OsI d l (fun s => zs.getD s 0) os k c))
            (fun _ _ i _ => 256 - (intOf i).toNat)
          case atStart => exact ⟨0, g1, c1, _, _, _, _, os, Nat.zero_le _, hk, rfl, rfl, rfl, ⟨by rw [upd_ne _ _ (by omega)]; exact Hv0.out, upd_same _ _ _, updL_same _ _ _⟩, HO1.out, HI.out.1⟩
          case round =>
            clear HO1 hol hi6 hk Hv0 HO
            obtain ⟨c, g1, c1, g3, c3, v, ls, os, hc, hk, rfl, rfl, rfl, Hvv, HO, HI4⟩ := hrel
            obtain ⟨W7, hW7⟩ : ∃ W7, W7 = wr := ⟨_, rfl⟩
            subst hW7
            by_cases hc2 : c < 256
            · have hi8 : (c : Int) < 256 := by omega
              have hi7 : (k : Int) < (os.length : Int) := by omega
              have hol := HI4.out.len HR.out
              obtain ⟨t1, t2, t3, t4⟩ := HI4.out.to HCh.out HR.out hk hc2
              have hok := HR.out.lt _ (HI4.out.can _ (getD_mem hk)).1
              have htn := HR.out.lt _ t1
              have hcn := HR.out.lt _ t2
              have hB7 : Below w.heap.size w W7 := HW5.out.trans (HO.out.below.mono (by have := HW5.out.size; rw [Hgt.out] at this; exact this))
              have hW57 : Below W5.heap.size W5 W7 := HO.out.below.mono (by rw [Hgt.out]; exact Nat.le_refl _)
              have hgo : ∀ W, Below W7.heap.size W7 W → Calls Try.prog 15 #[.agg #[cv, .int .i64 d.width, nv, .slice (some ⟨tb, to2, none⟩) d.tag.length tc, .slice (some ⟨eb, eo2, none⟩) d.fin.length ec], .int .i64 ((os.getD k 0 : Nat) : Int), .int .i64 (c : Int)] W fun e w' => e = .returned (.int .i64 ((stN d (os.getD k 0) c : Nat) : Int)) ∧ Below W.heap.size W w' := fun W hW => l2Go_nat _ _ _ _ d _ c _ _ rfl W ((HS0.out.below hB7).below hW) HF.out hok hc2 rfl
              have Hgo : Hid _ := hgo
              have hown1 := HO.out.fam.own 0 (by omega)
              rw [Hvv.out.1, HO.out.l0] at hown1
              obtain ⟨g1', c1', e1, _, hg1l, hoc⟩ := owns_some hown1 (by rw [intsN_len]; omega)
              rw [intsN_len] at e1
              cases e1
              have x7 := hW57.block _ (row_lt x5) |>.trans x5
              have HH : Hid (∀ W, Below W7.heap.size W7 W → W.cell? ⟨w.heap.size, 0, none⟩ = some cv ∧ W.cell? ⟨w.heap.size, 1, none⟩ = some (.int .i64 d.width) ∧ W.cell? ⟨w.heap.size, 2, none⟩ = some nv ∧ W.cell? ⟨w.heap.size, 3, none⟩ = some (.slice (some ⟨tb, to2, none⟩) d.tag.length tc) ∧ W.cell? ⟨w.heap.size, 4, none⟩ = some (.slice (some ⟨eb, eo2, none⟩) d.fin.length ec) ∧ W.cell? ⟨g1, k, none⟩ = some (.int .i64 ((os.getD k 0 : Nat) : Int)) ∧ W.cell? ⟨w3.heap.size, stN d (os.getD k 0) c, none⟩ = some (.int .i64 ((zs.getD (stN d (os.getD k 0) c) 0 : Nat) : Int))) := fun W hW => by
                obtain ⟨q0, q1, q2, q3, q4⟩ := row_five (row_below x7 hW)
                refine ⟨q0, q1, q2, q3, q4, ?_, Hzc.out W (hW57.trans (hW.mono hW57.size)) _ htn⟩
                rw [hW.cell (p := ⟨g1, k, none⟩) hg1l, hoc k (by rw [intsN_len]; exact hk), intsN_get]
              have Hold : Hid _ := fun h => HI4.out.old HCh.out HR.out hk hc2 h
              have Hnew : Hid _ := fun h => HI4.out.new HCh.out HR.out hk hc2 h
              have hi9 : ((stN d (os.getD k 0) c : Nat) : Int) < (d.tag.length : Int) := by omega
              generalize hta : stN d (os.getD k 0) c = ta at *
              generalize hza : zs.getD ta 0 = za at *
              generalize hso : os.getD k 0 = so at *
              clear hta hza hso t1 t2 t3 t4 hoc hown1 x7
              go_wp2
              go_region_held3 (fun w' => w'.cell? ⟨w.heap.size, 0, none⟩ = some cv ∧ w'.cell? ⟨w.heap.size, 1, none⟩ = some (.int .i64 d.width) ∧ w'.cell? ⟨w.heap.size, 2, none⟩ = some nv ∧ w'.cell? ⟨w.heap.size, 3, none⟩ = some (.slice (some ⟨tb, to2, none⟩) d.tag.length tc) ∧ w'.cell? ⟨w.heap.size, 4, none⟩ = some (.slice (some ⟨eb, eo2, none⟩) d.fin.length ec) ∧ w'.cell? ⟨g1, k, none⟩ = some (.int .i64 (so : Int)) ∧ w'.cell? ⟨w3.heap.size, ta, none⟩ = some (.int .i64 (za : Int))) ((first | exact HH.out _ (Below.refl _ _) | exact HH.out _ (Below.refl _ _).drew | exact HH.out _ ((Below.refl _ _).drew.trans hb8))) ((go_at_call 15; refine (Hgo.out _ (Below.refl _ _).drew).mono ?_; rintro e w8 ⟨rfl, hb8⟩))
              have hb78 : Below W7.heap.size W7 w8 := (Below.refl _ _).drew.trans hb8
              have HO8 : Hid _ := HO.out.on hb78
              have hown8 := HO8.out.fam.own 0 (by omega)
              rw [Hvv.out.1, HO8.out.l0] at hown8
              have hpl := l2Place_ok _ (intsN os) (za : Int) w8 (hown8.at (by rw [intsN_len]; omega))
              have hs8 := HO8.out.size
              have Hl8 : Hid _ := HO8.out.l0
              have Hf8 : Hid _ := HO8.out.fam
              clear hgo hb78 hb8 hown8 hg1l hB7 hW57 Hgo HH HI4
              generalize hpu : plF (intsN os) (za : Int) = pu at *
              clear hpu
              by_cases hp : pu < 0
              · have HI9 : Hid _ := (Hnew.out hp).1
                have Hp9 : Hid _ := (Hnew.out hp).2
                clear Hold Hnew
                go_wp2_with fail
                refine hpl.mono ?_
                rintro e w' ⟨rfl, hw'⟩
                subst w'
                go_wp2_with (at_builtin; refine wpList_fam Hf8.out _ rfl rfl (.tmp 95) (.tmp 97) rfl 0 (by omega) (intsN os) Hl8.out os.length (intsN_len _) (by exact Hvv.out.1.symm) (za : Int) rfl (by omega) hs8 ?_; intro g4 c4 w9 hF9 hg9)
                have HO9 : Hid _ := HO8.out.grow (by omega) (.inl rfl) hF9 hg9 (os' := os ++ [za]) (by rw [updL_same]; simp [intsN])
                have hown9 := hF9.own 0 (by omega)
                rw [upd_same, updL_same] at hown9
                have hpl9 := l2Place_ok _ _ (za : Int) w9 (hown9.at (by simp [intsN]; omega))
                have e9 : plF (intsN os ++ [(za : Int)]) (za : Int) = (rwA d k c : Int) := by have := Hp9.out; simpa [intsN, rwA] using this
                rw [e9] at hpl9
                have hs9 := HO9.out.size
                have Hf9 : Hid _ := HO9.out.fam
                have Hv9 : Hid (Value.slice (some ⟨g3, 0, none⟩) c c3 = upd v 0 (.slice (some ⟨g4, 0, none⟩) (os.length + 1) c4) (k + 1)) := by
                  show _ = _
                  rw [upd_ne _ _ (by omega)]; exact Hvv.out.2.1.symm
                have Hl9 : Hid (updL ls 0 (intsN os ++ [(za : Int)]) (k + 1) = rowP d k c) := by
                  show _ = _
                  rw [updL_ne _ _ (by omega)]; exact Hvv.out.2.2
                clear hF9 hg9 hown9 e9 hpl Hf8 HO8 Hl8
                generalize hrc : (rwA d k c : Int) = rc at *
                have Hrc : Hid _ := hrc
                clear hrc
                refine hpl9.mono ?_
                rintro e w' ⟨rfl, hw'⟩
                subst w'
                go_wp2_with (at_builtin; refine wpList_fam Hf9.out _ rfl rfl (.tmp 99) (.tmp 103) rfl (k + 1) (by omega) (rowP d k c) Hl9.out c (rowP_len _ _ _) (by exact Hv9.out) rc rfl (by omega) hs9 ?_; intro g5 c5 w10 hF10 hg10)
                have HO10 : Hid _ := HO9.out.grow (i := k + 1) (by omega) (.inr (by omega)) hF10 hg10 (os' := os ++ [za]) (by rw [updL_ne _ _ (by omega), updL_same]; simp [intsN])
                go_roundw
                case rel =>
                  refine ⟨c + 1, g4, c4, g5, c5, _, _, os ++ [za], by omega, by simp; omega, by go_num, by simp, rfl, ⟨?_, upd_same _ _ _, ?_⟩, HO10.out, HI9.out⟩
                  · rw [upd_ne _ _ (by omega), upd_same]; simp
                  · rw [updL_same, rowP_succ, ← Hrc.out]
                case measure => simp [intOf]; omega
              · have HI9 : Hid _ := (Hold.out (by omega)).1
                have Hrc : Hid ((rwA d k c : Int) = pu) := (Hold.out (by omega)).2.symm
                clear Hold Hnew
                go_wp2_with fail
                refine hpl.mono ?_
                rintro e w' ⟨rfl, hw'⟩
                subst w'
                go_wp2_with fail
                refine hpl.mono ?_
                rintro e w' ⟨rfl, hw'⟩
                subst w'
                go_wp2_with (at_builtin; refine wpList_fam Hf8.out _ rfl rfl (.tmp 99) (.tmp 103) rfl (k + 1) (by omega) (rowP d k c) Hvv.out.2.2 c (rowP_len _ _ _) (by exact Hvv.out.2.1.symm) pu rfl (by omega) hs8 ?_; intro g5 c5 w10 hF10 hg10)
                have HO10 : Hid _ := HO8.out.grow (i := k + 1) (by omega) (.inr (by omega)) hF10 hg10 (os' := os) (by rw [updL_ne _ _ (by omega)]; exact Hl8.out)
                go_roundw
                case rel =>
                  refine ⟨c + 1, g1, c1, g5, c5, _, _, os, by omega, hk, by go_num, rfl, rfl, ⟨?_, upd_same _ _ _, ?_⟩, HO10.out, HI9.out⟩
                  · rw [upd_ne _ _ (by omega)]; exact Hvv.out.1
                  · rw [updL_same, rowP_succ, ← Hrc.out]
                case measure => simp [intOf]; omega
            · have hcc : c = 256 := by omega
              subst hcc
              have hol := HI4.out.len HR.out
              have hs7 := HO.out.size
              have Hout : Hid _ := HO.out.out
              go_wp2_with (at_builtin; refine wpList_append_oneH W7 _ rfl rfl (.tmp 105) (.tmp 107) 38 rfl (gt + 1) 22 iS (.slice none 0 0) 24 Try.underlying38 hjS hyS0 hyS1 hyS2 rfl g2 c2 k (rowsV v k) (.slice (some ⟨g3, 0, none⟩) 256 c3) rfl Hout.out rfl rfl (by omega) (by omega) hs7 ?_; intro g4 c4 w9 hown9 hgrow9 hat9)
              go_roundw
              case rel => exact ⟨k + 1, g1, c1, g4, c4, v, ls, os, by go_num, rfl, rfl, Hvv.out.1, HO.out.more Hvv.out.2.2 hgrow9 (by rw [Hvv.out.2.1]; exact hown9), HI4.out.row rfl, HG.out⟩
              case measure => simp [intOf]; omega
        · have hkl : k = os.length := by
            have := going_le HI.out.2
            rw [← HI.out.1.al.length] at this
            omega
          have Hkw : Hid ((walkA (stN d) (anN d) k 0).length = k) := by
            show _ = _
            rw [← HI.out.1.al.length]; exact hkl.symm
          obtain ⟨R, hRd⟩ : ∃ R, R = rwA d := ⟨_, rfl⟩
          have HRd : Hid _ := hRd
          have HRw : Hid (∀ W, Below W6.heap.size W6 W → ∀ x, x < k → ∃ gx cx, W.cell? ⟨g2, x, none⟩ = some (.slice (some ⟨gx, 0, none⟩) 256 cx) ∧ ∀ c, c < 256 → W.cell? ⟨gx, c, none⟩ = some (.int .i64 ((R x c : Nat) : Int))) := by
            rw [hRd]
            exact HO.out.cells (by omega)
          have Hos : Hid (∀ W, Below W6.heap.size W6 W → ∀ j, j < os.length → W.cell? ⟨g1, j, none⟩ = some (.int .i64 ((os.getD j 0 : Nat) : Int))) := fun W hW j hj => by
            have ho := HO.out.fam.own 0 (by omega)
            rw [Hv0.out, HO.out.l0] at ho
            obtain ⟨g', c', e1, _, hl1, hc⟩ := owns_some ho (by rw [intsN_len]; omega)
            rw [intsN_len] at e1
            cases e1
            rw [hW.cell (p := ⟨g1, j, none⟩) hl1, hc j (by rw [intsN_len]; exact hj), intsN_get]
          have hB6 : Below w.heap.size w W6 := HW5.out.trans (HO.out.below.mono (by have := HW5.out.size; rw [Hgt.out] at this; exact this))
          have hW56 : Below W5.heap.size W5 W6 := HO.out.below.mono (by rw [Hgt.out]; exact Nat.le_refl _)
          have x6 := (hW56.block _ (row_lt x5)).trans x5
          have z6 := (hW56.block _ (row_lt z5)).trans z5
          have HS6 : Hid _ := HdS.start (W8 := W6)
          have HB6 : Hid _ := hB6
          have HHk : Hid (k = os.length) := hkl
          have hk4 : k ≤ 4000 := by omega
          clear hRd hkl hB6 hW56 x5 z5 HO Hzc Hgt
          unfold zeroD at HS6
          go_wp2
          go_loopw [16, 17] (fun hv i wr => ∃ (c g4 c4 : Nat) (v : Nat → Value) (ls : Nat → List Int), c ≤ 256 ∧ i = .int .i64 c ∧ hv = .slice (some ⟨g4, 0, none⟩) (headsF k R c).length c4 ∧ Hid (v 4 = .slice (some ⟨g4, 0, none⟩) (headsF k R c).length c4 ∧ ls 4 = intsN (headsF k R c) ∧ ls 0 = (List.range c).map (fun c => (clsF k R c : Int)) ∧ ls 1 = [] ∧ ls 2 = [] ∧ ls 3 = []) ∧ Hid (HdS W6 W6.heap.size wr 0 v ls))
            (fun _ i _ => 256 - (intOf i).toNat)
          case atStart => exact ⟨0, _, _, _, _, Nat.zero_le _, rfl, rfl, ⟨upd_same _ _ _, updL_same _ _ _, rfl, rfl, rfl, rfl⟩, HS6.out⟩
          case round =>
            clear HS6
            obtain ⟨c, g4, c4, v, ls, hc, rfl, rfl, Hvv, HS⟩ := hrel
            obtain ⟨W9, hW9⟩ : ∃ W9, W9 = wr := ⟨_, rfl⟩
            subst hW9
            by_cases hc2 : c < 256
            · have hi8 : (c : Int) < 256 := by omega
              have hhl := heads_len k R c
              have Hhd : Hid (∀ W, Below W9.heap.size W9 W → ∀ j, j < (headsF k R c).length → W.cell? ⟨g4, j, none⟩ = some (.int .i64 (((headsF k R c).getD j 0 : Nat) : Int))) := fun W hW j hj => by
                have ho := HS.out.fam.own 4 (by omega)
                rw [Hvv.out.1, Hvv.out.2.1] at ho
                obtain ⟨g', c', e1, _, hl1, hcc⟩ := owns_some ho (by rw [intsN_len]; omega)
                rw [intsN_len] at e1
                cases e1
                rw [hW.cell (p := ⟨g4, j, none⟩) hl1, hcc j (by rw [intsN_len]; exact hj), intsN_get]
              have H69 : Hid (Below W6.heap.size W6 W9) := HS.out.below
              have Hyes : Hid (∀ j, j < (headsF k R c).length → colEq k R ((headsF k R c).getD j 0) c = true → clsV k R c (j + 1) = j) := fun j h1 h2 => clsV_yes h1 h2
              have Hno : Hid (∀ j, j < (headsF k R c).length → colEq k R ((headsF k R c).getD j 0) c = false → clsV k R c (j + 1) = clsV k R c j) := fun j h1 h2 => clsV_no h1 h2
              have Hlt : Hid (∀ j, j < (headsF k R c).length → (headsF k R c).getD j 0 < c) := fun j hj => heads_lt k R c _ (getD_mem hj)
              have Hcl0 : Hid (clsV k R c 0 = -1) := by show _ = _; unfold clsV; rw [if_neg (by omega)]
              have HclE : Hid (clsV k R c (headsF k R c).length = if clsF k R c < (headsF k R c).length then (clsF k R c : Int) else -1) := rfl
              have Hcle : Hid (clsF k R c ≤ (headsF k R c).length) := List.findIdx_le_length
              have Hsuc : Hid _ := headsF_succ k R c
              obtain ⟨hd, hhd⟩ : ∃ hd, headsF k R c = hd := ⟨_, rfl⟩
              obtain ⟨cf, hcf⟩ : ∃ cf, clsF k R c = cf := ⟨_, rfl⟩
              obtain ⟨cV, hcV⟩ : ∃ cV : Nat → Int, (fun j => clsV k R c j) = cV := ⟨_, rfl⟩
              have HcV : Hid (∀ j, clsV k R c j = cV j) := fun j => congrFun hcV j
              rw [hhd] at Hhd Hyes Hno Hlt HclE Hcle Hsuc Hvv hhl ⊢
              rw [hcf] at HclE Hcle Hsuc
              have Hcf : Hid _ := hcf
              have Hhh : Hid _ := hhd
              clear hhd hcf hcV
              go_wp2
              go_loopw [18, 117] (fun cv i wr => ∃ j : Nat, j ≤ hd.length ∧ i = .int .i64 j ∧ cv = .int .i64 (cV j) ∧ Below W9.heap.size W9 wr)
                (fun _ i _ => hd.length - (intOf i).toNat)
              case atStart => exact ⟨0, Nat.zero_le _, rfl, by rw [← HcV.out, Hcl0.out], Below.refl _ _⟩
              case round =>
                obtain ⟨j, hj, rfl, rfl, hb9⟩ := hrel
                obtain ⟨W10, hW10⟩ : ∃ W10, W10 = wr := ⟨_, rfl⟩
                subst hW10
                by_cases hj2 : j < hd.length
                · have hi9 : (j : Int) < (hd.length : Int) := by omega
                  have c0 := Hhd.out _ hb9 j hj2
                  have hlt := Hlt.out j hj2
                  have Hy : Hid _ := Hyes.out j hj2
                  have Hn : Hid _ := Hno.out j hj2
                  generalize hd.getD j 0 = h at *
                  go_wp2
                  go_loopw [21, 124] (fun sv i wr => ∃ x : Nat, x ≤ k ∧ i = .int .i64 x ∧ sv = .bool (colEq x R h c) ∧ Below W9.heap.size W9 wr)
                    (fun _ i _ => k - (intOf i).toNat)
                  case atStart => exact ⟨0, Nat.zero_le _, rfl, rfl, hb9⟩
                  case round =>
                    obtain ⟨x, hx, rfl, rfl, hb10⟩ := hrel
                    by_cases hx2 : x < k
                    · have hix : (x : Int) < (k : Int) := by omega
                      obtain ⟨gx, cx, o1, hcx⟩ := HRw.out wr (H69.out.trans (hb10.mono H69.out.size)) x hx2
                      have a1 := hcx h (by omega)
                      have a2 := hcx c hc2
                      have hh2 : (h : Int) < 256 := by omega
                      have HX : Hid (colEq (x + 1) R h c = (colEq x R h c && (R x h == R x c))) := colEq_succ x R h c
                      clear hcx
                      generalize R x h = r1 at *
                      generalize R x c = r2 at *
                      by_cases hr : r1 = r2
                      · have hr1 : ((r1 : Int) != (r2 : Int)) = false := by simp [hr]
                        go_wp2
                        go_quiet (fail)
                        go_wp2
                        go_roundw
                        case rel => exact ⟨x + 1, by omega, by go_num, by rw [HX.out]; simp [hr], below_drewN hb10 _⟩
                        case measure => simp [intOf]; omega
                      · have hr1 : ((r1 : Int) != (r2 : Int)) = true := by simp; omega
                        go_wp2
                        go_quiet (fail)
                        go_wp2
                        go_roundw
                        case rel => exact ⟨x + 1, by omega, by go_num, by rw [HX.out]; simp [hr], below_drewN hb10 _⟩
                        case measure => simp [intOf]; omega
                    · have hxk : x = k := by omega
                      subst hxk
                      cases hce : colEq x R h c
                      · have HE : Hid _ := Hn.out hce
                        go_wp2
                        go_roundw
                        case rel => exact ⟨j + 1, by omega, by go_num, by rw [← HcV.out, ← HcV.out, HE.out], hb10⟩
                        case measure => simp [intOf]; omega
                      · have HE : Hid _ := Hy.out hce
                        go_wp2
                        go_roundw
                        case rel => exact ⟨j + 1, by omega, by go_num, by rw [← HcV.out, HE.out], hb10⟩
                        case measure => simp [intOf]; omega
                · have hjj : j = hd.length := by omega
                  subst hjj
                  have HS1 : Hid _ := HS.out.on hb9
                  have hs1 := HS1.out.size
                  obtain ⟨y0, y1, y2, y3, y4⟩ := row_D HS1.out.box
                  have Hf1 : Hid _ := HS1.out.fam
                  obtain ⟨⟨a0, p0⟩, e0⟩ := owns_formD (HS1.out.fam.own 0 (by omega))
                  rw [Hvv.out.2.2.1] at e0
                  simp only [List.length_map, List.length_range] at e0
                  rw [e0] at y0
                  have He0 : Hid _ := e0
                  have hce := HclE.out
                  rw [HcV.out] at hce
                  have hgm : ∀ o, o = W6.heap.size → o = W6.heap.size := fun _ h => h
                  clear e0 hgm y1 y2 y3 y4
                  by_cases hcl : cf < hd.length
                  · rw [if_pos hcl] at hce
                    rw [hce]
                    clear hce
                    go_wp2_with (at_builtin; refine wpList_fam Hf1.out _ rfl rfl (.tmp 150) (.tmp 152) rfl 0 (by omega) ((List.range c).map (fun c => (clsF k R c : Int))) Hvv.out.2.2.1 c (by simp) (by exact He0.out.symm) (cf : Int) rfl (by omega) hs1 ?_; intro g5 c5 w10 hF10 hg10; obtain ⟨bx10, HN10⟩ := HS1.out.field (i := 0) (by omega) hF10 hg10; have y10 := (row_D bx10).1; rw [He0.out] at y10; have f10 := frozen_of_row _ _ 0 _ _ bx10)
                    go_roundw
                    case rel =>
                      have eh : headsF k R (c + 1) = hd := by rw [Hsuc.out, if_pos hcl]
                      refine ⟨c + 1, g4, c4, _, _, by omega, by go_num, by rw [eh], ⟨by rw [eh, upd_ne _ _ (by omega)]; exact Hvv.out.1, by rw [eh, updL_ne _ _ (by omega)]; exact Hvv.out.2.1, ?_, ?_, ?_, ?_⟩, HN10⟩
                      · rw [updL_same, List.range_succ, List.map_append]; simp [Hcf.out]
                      · rw [updL_ne _ _ (by omega)]; exact Hvv.out.2.2.2.1
                      · rw [updL_ne _ _ (by omega)]; exact Hvv.out.2.2.2.2.1
                      · rw [updL_ne _ _ (by omega)]; exact Hvv.out.2.2.2.2.2
                    case measure => simp [intOf]; omega
                  · rw [if_neg hcl] at hce
                    rw [hce]
                    have hcfe : cf = hd.length := by have := Hcle.out; omega
                    have Hcfe : Hid _ := hcfe
                    clear hce hcfe y0
                    go_wp2_with (first | (at_builtin; refine wpList_fam Hf1.out _ rfl rfl (.tmp 145) (.tmp 147) rfl 4 (by omega) (intsN hd) Hvv.out.2.1 hd.length (intsN_len _) (by exact Hvv.out.1.symm) (c : Int) rfl (by omega) hs1 ?_; intro g5 c5 w10 hF10 hg10; have HS2 : Hid _ := HS1.out.heads hF10 hg10; have hs2 := HS2.out.size; have y10 := (row_D HS2.out.box).1; rw [upd_ne _ _ (by omega), He0.out] at y10; have Hf2 : Hid _ := HS2.out.fam; clear hF10 hg10) | (at_builtin; refine wpList_fam Hf2.out _ rfl rfl (.tmp 150) (.tmp 152) rfl 0 (by omega) ((List.range c).map (fun c => (clsF k R c : Int))) (by rw [updL_ne _ _ (by omega)]; exact Hvv.out.2.2.1) c (by simp) (by rw [upd_ne _ _ (by omega)]; exact He0.out.symm) (hd.length : Int) rfl (by omega) hs2 ?_; intro g6 c6 w11 hF11 hg11; obtain ⟨bx11, HN11⟩ := HS2.out.field (i := 0) (by omega) hF11 hg11; have y11 := (row_D bx11).1; rw [upd_ne _ _ (by omega), He0.out] at y11; have f11 := frozen_of_row _ _ 0 _ _ bx11))
                    go_roundw
                    case rel =>
                      have eh : headsF k R (c + 1) = hd ++ [c] := by rw [Hsuc.out, if_neg hcl]
                      refine ⟨c + 1, g5, c5, _, _, by omega, by go_num, by rw [eh]; simp, ⟨?_, ?_, ?_, ?_, ?_, ?_⟩, HN11⟩
                      · rw [eh, upd_ne _ _ (by omega), upd_same]; simp
                      · rw [eh, updL_ne _ _ (by omega), updL_same]; simp [intsN]
                      · rw [updL_same, List.range_succ, List.map_append]; simp [Hcf.out, Hcfe.out]
                      · rw [updL_ne _ _ (by omega), updL_ne _ _ (by omega)]; exact Hvv.out.2.2.2.1
                      · rw [updL_ne _ _ (by omega), updL_ne _ _ (by omega)]; exact Hvv.out.2.2.2.2.1
                      · rw [updL_ne _ _ (by omega), updL_ne _ _ (by omega)]; exact Hvv.out.2.2.2.2.2
                    case measure => simp [intOf]; omega
            · have hcc : c = 256 := by omega
              have Hcc : Hid (c = 256) := hcc
              clear hcc
              have hhl := heads_len k R c
              have HSw : Hid _ := HS.out.width ((headsF k R c).length : Int)
              obtain ⟨y0, y1, y2, y3, y4⟩ := row_D HS.out.box
              have f1 := frozen_of_row _ _ 1 _ _ HS.out.box
              have HmL : Hid (∀ ls' : Nat → List Int, ls' 0 = (List.range c).map (fun c => (clsF k R c : Int)) → ls' 1 = nextP R (headsF k R c) os.length → ls' 2 = (os.take os.length).map (fun s => d.tag.getD s 0) → ls' 3 = (os.take os.length).map (fun s => d.fin.getD s 0) → ∀ i, i < 4 → ls' i = mnL d k i) := fun ls' h0 h1 h2 h3 i hi => by
                rw [List.take_length] at h2 h3
                have ha := HI.out.1.al.answers
                match i, hi with
                | 0, _ => rw [h0, HRd.out, Hcc.out]; rfl
                | 1, _ => rw [h1, HRd.out, ← HHk.out, Hcc.out]; rfl
                | 2, _ => rw [h2, ha.1]; rfl
                | 3, _ => rw [h3, ha.2]; rfl
              have HwL : Hid ((headsF k R c).length = (headsF k (rwA d) 256).length) := by show _ = _; rw [HRd.out, Hcc.out]
              have Hlt : Hid (∀ j, j < (headsF k R c).length → (headsF k R c).getD j 0 < 256) := fun j hj => by have := heads_lt k R c _ (getD_mem hj); omega
              have Hon : Hid (∀ q, q < os.length → os.getD q 0 < d.tag.length) := fun q hq => HR.out.lt _ (HI.out.1.can _ (getD_mem hq)).1
              have Hot : Hid (∀ W, Below W6.heap.size W6 W → ∀ s, s < d.tag.length → W.cell? ⟨tb, to2 + s, none⟩ = some (.int .i64 (d.tag.getD s 0)) ∧ W.cell? ⟨eb, eo2 + s, none⟩ = some (.int .i64 (d.fin.getD s 0))) := fun W hW s hs => by
                have hBW := HB6.out.trans (hW.mono HB6.out.size)
                exact ⟨by rw [hBW.cell (p := ⟨tb, to2 + s, none⟩) tl]; exact Htx.out s hs, by rw [hBW.cell (p := ⟨eb, eo2 + s, none⟩) el]; exact Hfx.out s (by have := HF.out.fl; omega)⟩
              have HfL : Hid (d.fin.length = d.tag.length) := HF.out.fl
              have HHG : Hid _ := HI.out.2
              generalize headsF k R c = hd at *
              clear hn1
              go_wp2
              go_loopw [160] (fun i wr => ∃ (q : Nat) (v : Nat → Value) (ls : Nat → List Int), q ≤ os.length ∧ i = .int .i64 q ∧ Hid (v 4 = .slice (some ⟨g4, 0, none⟩) hd.length c4 ∧ ls 4 = intsN hd ∧ ls 0 = (List.range c).map (fun c => (clsF k R c : Int)) ∧ ls 1 = nextP R hd q ∧ ls 2 = (os.take q).map (fun s => d.tag.getD s 0) ∧ ls 3 = (os.take q).map (fun s => d.fin.getD s 0)) ∧ Hid (HdS W6 W6.heap.size wr (hd.length : Int) v ls))
                (fun i _ => os.length - (intOf i).toNat)
              case atStart => exact ⟨0, v, ls, Nat.zero_le _, rfl, ⟨Hvv.out.1, Hvv.out.2.1, Hvv.out.2.2.1, by rw [Hvv.out.2.2.2.1]; rfl, by rw [Hvv.out.2.2.2.2.1]; rfl, by rw [Hvv.out.2.2.2.2.2]; rfl⟩, HSw.out⟩
              case round =>
                clear HSw Hvv HS y0 y1 y2 y3 y4 f1
                obtain ⟨q, v, ls, hq, rfl, Hvv, HS⟩ := hrel
                obtain ⟨W9, hW9⟩ : ∃ W9, W9 = wr := ⟨_, rfl⟩
                subst hW9
                by_cases hq2 : q < os.length
                · have hi9 : (q : Int) < (os.length : Int) := by omega
                  have hik : (q : Int) < (k : Int) := by have := HHk.out; omega
                  have hqk : q < k := by omega
                  have c0 := Hos.out _ HS.out.below q hq2
                  have hso := Hon.out q hq2
                  have HT : Hid _ := take_mapN (fun s => d.tag.getD s 0) os hq2
                  have HE : Hid _ := take_mapN (fun s => d.fin.getD s 0) os hq2
                  have Hco : Hid (∀ W, Below W6.heap.size W6 W → W.cell? ⟨tb, to2 + os.getD q 0, none⟩ = some (.int .i64 (d.tag.getD (os.getD q 0) 0)) ∧ W.cell? ⟨eb, eo2 + os.getD q 0, none⟩ = some (.int .i64 (d.fin.getD (os.getD q 0) 0))) := fun W hW => Hot.out W hW _ hso
                  have hif : ((os.getD q 0 : Nat) : Int) < (d.fin.length : Int) := by have := HfL.out; omega
                  have hit : ((os.getD q 0 : Nat) : Int) < (d.tag.length : Int) := by omega
                  generalize d.tag.getD (os.getD q 0) 0 = t1 at *
                  generalize d.fin.getD (os.getD q 0) 0 = t2 at *
                  generalize os.getD q 0 = so at *
                  go_wp2
                  go_loopw [167] (fun i wr => ∃ (j : Nat) (v : Nat → Value) (ls : Nat → List Int), j ≤ hd.length ∧ i = .int .i64 j ∧ Hid (v 4 = .slice (some ⟨g4, 0, none⟩) hd.length c4 ∧ ls 4 = intsN hd ∧ ls 0 = (List.range c).map (fun c => (clsF k R c : Int)) ∧ ls 1 = nextJ R hd q j ∧ ls 2 = (os.take q).map (fun s => d.tag.getD s 0) ∧ ls 3 = (os.take q).map (fun s => d.fin.getD s 0)) ∧ Hid (HdS W6 W6.heap.size wr (hd.length : Int) v ls))
                    (fun i _ => hd.length - (intOf i).toNat)
                  case atStart => exact ⟨0, v, ls, Nat.zero_le _, rfl, ⟨Hvv.out.1, Hvv.out.2.1, Hvv.out.2.2.1, by rw [nextJ_zero]; exact Hvv.out.2.2.2.1, Hvv.out.2.2.2.2.1, Hvv.out.2.2.2.2.2⟩, HS.out⟩
                  case round =>
                    clear c0 Hvv HS
                    obtain ⟨j, v, ls, hj, rfl, Hvv, HS⟩ := hrel
                    have hs1 := HS.out.size
                    have hgl : W6.heap.size < wr.heap.size := by omega
                    have Hf1 : Hid _ := HS.out.fam
                    obtain ⟨y0, y1, y2, y3, y4⟩ := row_D HS.out.box
                    by_cases hj2 : j < hd.length
                    · have hij : (j : Int) < (hd.length : Int) := by omega
                      have chd : wr.cell? ⟨g4, j, none⟩ = some (.int .i64 ((hd.getD j 0 : Nat) : Int)) := by
                        have ho := HS.out.fam.own 4 (by omega)
                        rw [Hvv.out.1, Hvv.out.2.1] at ho
                        obtain ⟨g', c', e1, _, hl1, hcc⟩ := owns_some ho (by rw [intsN_len]; omega)
                        rw [intsN_len] at e1
                        cases e1
                        rw [hcc j (by rw [intsN_len]; exact hj2), intsN_get]
                      have hlt := Hlt.out j hj2
                      obtain ⟨gx, cx, o1, hcx⟩ := HRw.out wr HS.out.below q hqk
                      have a1 := hcx _ hlt
                      have HJ : Hid _ := nextJ_succ R hd q hj2
                      have hnL := nextJ_len R hd (q := q) (j := j) (by omega) (by omega)
                      obtain ⟨⟨a0, p0⟩, e0⟩ := owns_formD (HS.out.fam.own 1 (by omega))
                      rw [Hvv.out.2.2.2.1] at e0
                      obtain ⟨nl, hnl⟩ : ∃ nl, (nextJ R hd q j).length = nl := ⟨_, rfl⟩
                      rw [hnl] at e0 hnL
                      rw [e0] at y2
                      have He0 : Hid _ := e0
                      have Hnl : Hid _ := hnl
                      have hh2 : ((hd.getD j 0 : Nat) : Int) < 256 := by omega
                      clear hnl e0 hcx y0 y1 y3 y4
                      generalize R q (hd.getD j 0) = r at *
                      generalize hd.getD j 0 = h at *
                      obtain ⟨g5, c5, w10, hrun, hF10, hg10⟩ := app_fam Hf1.out 1 (by omega) (nextJ R hd q j) Hvv.out.2.2.2.1 nl Hnl.out _ He0.out (r : Int) (by omega) hs1 22
                      obtain ⟨bx10, HN10'⟩ := HS.out.fieldAt (i := 1) (off := 2) (by omega) rfl hF10 hg10
                      have HN10 : Hid _ := HN10'
                      have y10 := (row_D bx10).2.2.1
                      rw [He0.out] at y10
                      have f10 := frozen_of_row _ _ 2 _ _ bx10
                      clear hF10 hg10 bx10 HN10'
                      go_wp2
                      go_big_region
                      all_goals
                        go_wp2
                        go_roundw
                        case rel =>
                          refine ⟨j + 1, _, _, by omega, by go_num, ⟨?_, ?_, ?_, ?_, ?_, ?_⟩, HN10.out⟩
                          · rw [upd_ne _ _ (by omega)]; exact Hvv.out.1
                          · rw [updL_ne _ _ (by omega)]; exact Hvv.out.2.1
                          · rw [updL_ne _ _ (by omega)]; exact Hvv.out.2.2.1
                          · rw [updL_same, HJ.out]
                          · rw [updL_ne _ _ (by omega)]; exact Hvv.out.2.2.2.2.1
                          · rw [updL_ne _ _ (by omega)]; exact Hvv.out.2.2.2.2.2
                        case measure => simp [intOf]; omega
                    · have hjj : j = hd.length := by omega
                      subst hjj
                      obtain ⟨k1, k2⟩ := Hco.out _ HS.out.below
                      have xw := (HS.out.below.block _ (row_lt x6)).trans x6
                      obtain ⟨q0, q1, q2, q3, q4⟩ := row_five xw
                      obtain ⟨⟨a0, p0⟩, e0⟩ := owns_formD (HS.out.fam.own 2 (by omega))
                      rw [Hvv.out.2.2.2.2.1, List.length_map, List.length_take, Nat.min_eq_left (by omega)] at e0
                      rw [e0] at y3
                      have He0 : Hid _ := e0
                      obtain ⟨g5, c5, w10, hrun, hF10, hg10⟩ := app_fam Hf1.out 2 (by omega) ((os.take q).map (fun s => d.tag.getD s 0)) Hvv.out.2.2.2.2.1 q (by rw [List.length_map, List.length_take, Nat.min_eq_left (by omega)]) _ He0.out t1 (by omega) hs1 22
                      obtain ⟨bx10, HN10'⟩ := HS.out.fieldAt (i := 2) (off := 3) (by omega) rfl hF10 hg10
                      have y10 := (row_D bx10).2.2.2.1
                      rw [He0.out] at y10
                      have f10 := frozen_of_row _ _ 3 _ _ bx10
                      obtain ⟨W11, hW11⟩ : ∃ W11, w10.setCell ⟨W6.heap.size, 3, none⟩ (.slice (some ⟨g5, 0, none⟩) (q + 1) c5) = W11 := ⟨_, rfl⟩
                      rw [hW11] at HN10'
                      have HN10 : Hid _ := HN10'
                      clear hF10 hg10 bx10 HN10' e0 xw y0 y1 y2 y4 q0 q1 q2 q4 k2
                      go_wp2
                      go_big_region
                      clear hW11 hrun y10 f10 y3 q3 k1 hs1 hgl
                      obtain ⟨k1, k2⟩ := Hco.out _ HN10.out.below
                      have xw := (HN10.out.below.block _ (row_lt x6)).trans x6
                      obtain ⟨q0, q1, q2, q3, q4⟩ := row_five xw
                      obtain ⟨y0, y1, y2, y3, y4⟩ := row_D HN10.out.box
                      rw [upd_ne _ _ (by omega)] at y4
                      have hl3 : updL ls 2 ((os.take q).map (fun s => d.tag.getD s 0) ++ [t1]) 3 = (os.take q).map (fun s => d.fin.getD s 0) := by rw [updL_ne _ _ (by omega)]; exact Hvv.out.2.2.2.2.2
                      have Hl3 : Hid _ := hl3
                      obtain ⟨⟨a0', p0'⟩, e0⟩ := owns_formD (HN10.out.fam.own 3 (by omega))
                      rw [hl3, upd_ne _ _ (by omega), List.length_map, List.length_take, Nat.min_eq_left (by omega)] at e0
                      rw [e0] at y4
                      have He1 : Hid _ := e0
                      have hs1 := HN10.out.size
                      have hgl : W6.heap.size < W11.heap.size := by omega
                      obtain ⟨g6, c6, w12, hrun, hF12, hg12⟩ := app_fam HN10.out.fam 3 (by omega) ((os.take q).map (fun s => d.fin.getD s 0)) hl3 q (by rw [List.length_map, List.length_take, Nat.min_eq_left (by omega)]) (.slice a0' q p0') (by rw [upd_ne _ _ (by omega)]; exact He1.out) t2 (by omega) hs1 22
                      obtain ⟨bx12, HN12'⟩ := HN10.out.fieldAt (i := 3) (off := 4) (by omega) rfl hF12 hg12
                      have y12 := (row_D bx12).2.2.2.2
                      rw [upd_ne _ _ (by omega), He1.out] at y12
                      have f12 := frozen_of_row _ _ 4 _ _ bx12
                      have HN12 : Hid _ := HN12'
                      clear hF12 hg12 bx12 HN12' e0 xw y0 y1 y2 y3 q0 q1 q2 q3 k1 hl3
                      go_wp2
                      go_big_region
                      go_wp2
                      go_roundw
                      case rel =>
                        refine ⟨q + 1, _, _, by omega, by go_num, ⟨?_, ?_, ?_, ?_, ?_, ?_⟩, HN12.out⟩
                        · rw [upd_ne _ _ (by omega), upd_ne _ _ (by omega)]; exact Hvv.out.1
                        · rw [updL_ne _ _ (by omega), updL_ne _ _ (by omega)]; exact Hvv.out.2.1
                        · rw [updL_ne _ _ (by omega), updL_ne _ _ (by omega)]; exact Hvv.out.2.2.1
                        · rw [updL_ne _ _ (by omega), updL_ne _ _ (by omega), ← nextJ_end]; exact Hvv.out.2.2.2.1
                        · rw [updL_ne _ _ (by omega), updL_same, HT.out]
                        · rw [updL_same, HE.out]
                      case measure => simp [intOf]; omega
                · have hqq : q = os.length := by omega
                  have zw := (HS.out.below.block _ (row_lt z6)).trans z6
                  unfold zeroD at zw
                  obtain ⟨z0, z1, z2, z3, z4⟩ := row_five zw
                  have fz : ∀ o, W9.frozen? ⟨w.heap.size + 1, o, none⟩ = false := fun _ => frozen_of_row _ _ _ _ _ zw
                  obtain ⟨y0, y1, y2, y3, y4⟩ := row_D HS.out.box
                  obtain ⟨⟨a0, p0⟩, e0⟩ := owns_formD (HS.out.fam.own 0 (by omega))
                  obtain ⟨⟨a1, p1⟩, e1⟩ := owns_formD (HS.out.fam.own 1 (by omega))
                  obtain ⟨⟨a2, p2⟩, e2⟩ := owns_formD (HS.out.fam.own 2 (by omega))
                  obtain ⟨⟨a3, p3⟩, e3⟩ := owns_formD (HS.out.fam.own 3 (by omega))
                  rw [e0] at y0
                  rw [e1] at y2
                  rw [e2] at y3
                  rw [e3] at y4
                  have HFE : Hid (Fam W6.heap.size 4 (set5 W9 (w.heap.size + 1) (.slice a0 (ls 0).length p0) (.int .i64 (hd.length : Int)) (.slice a1 (ls 1).length p1) (.slice a2 (ls 2).length p2) (.slice a3 (ls 3).length p3)) v (mnL d k)) := ((HS.out.fam.takeD (by omega)).congr (fun _ _ => rfl) (HmL.out ls Hvv.out.2.2.1 (by rw [← hqq]; exact Hvv.out.2.2.2.1) (by rw [← hqq]; exact Hvv.out.2.2.2.2.1) (by rw [← hqq]; exact Hvv.out.2.2.2.2.2))).set5 (by have := row_lt z6; omega) _ _ _ _ _
                  have HBE : Hid (Below w.heap.size w (set5 W9 (w.heap.size + 1) (.slice a0 (ls 0).length p0) (.int .i64 (hd.length : Int)) (.slice a1 (ls 1).length p1) (.slice a2 (ls 2).length p2) (.slice a3 (ls 3).length p3))) := below_set5 (HB6.out.trans (HS.out.below.mono HB6.out.size)) (by omega) _ _ _ _ _
                  have Hrow : Hid (rowD ((headsF k (rwA d) 256).length : Int) v = #[.slice a0 (ls 0).length p0, .int .i64 (hd.length : Int), .slice a1 (ls 1).length p1, .slice a2 (ls 2).length p2, .slice a3 (ls 3).length p3]) := by
                    show _ = _
                    unfold rowD
                    rw [e0, e1, e2, e3, ← HwL.out]
                  have hwm : w.heap.size ≤ W6.heap.size := HB6.out.size
                  have hne6 : ¬W6.heap.size = w.heap.size + 1 := by have := row_lt z6; omega
                  have Hgo2 : Hid _ := HHG.out
                  clear e0 e1 e2 e3 hqq zw
                  generalize (ls 0).length = n0 at *
                  generalize (ls 1).length = n1 at *
                  generalize (ls 2).length = n2 at *
                  generalize (ls 3).length = n3 at *
                  go_wp2
                  refine bodyPost_ret (v := .agg #[.slice a0 n0 p0, .int .i64 (hd.length : Int), .slice a1 n1 p1, .slice a2 n2 p2, .slice a3 n3 p3]) (by simp [results, Try.results5, go_sem, z0, z1, z2, z3, z4]) rfl ?_
                  exact ⟨k, Hgo2.out, Hkw.out, W6.heap.size, v, by rw [Hrow.out], hwm, HFE.out, HBE.out⟩
end Go.Proofs.Ytgbdlgogccgciaa
