import Derived.Test.YtgbdlgogccgciaaMiT
namespace Go.Proofs.Ytgbdlgogccgciaa
open Go.RowKit
attribute [local go_sem ↓] Go.wp_at_zero Go.wp_at_succ
attribute [local go_sem] Try.buildZ

set_option maxRecDepth 100000 in
set_option maxHeartbeats 8000000 in
theorem alike_ok (cv nv tv ev : Value) (d : DfaD) (w : World) (hs : DfaAt 0 w cv nv tv ev d) (hf : DfaFine d) :
    Calls Try.prog 28 #[.agg #[cv, .int .i64 d.width, nv, tv, ev]] w (AlR w d) := by
  have hmix : Try.prog.follows .mixedOrders = true := by kernel_rfl
  obtain ⟨iT, hjT, hyT0, hyT1, hyT2⟩ := info_parts Try.infoTrait
  have hn1 := hf.n1
  have hn2 := hf.n2
  have Hs : Hid _ := hs
  obtain ⟨⟨ca, cc, rfl, cm, cx⟩, ⟨na, nc, rfl, nm, nx⟩, ⟨ta, tc, rfl, tm, tx⟩, ⟨ea, ec, rfl, em, ex⟩⟩ := hs
  clear cx nx tx ex
  obtain ⟨W0, hW0⟩ : ∃ W0, w.alloc (.cells #[.slice ca d.classes.length cc, .int .i64 d.width, .slice na d.next.length nc, .slice ta d.tag.length tc, .slice ea d.fin.length ec] 26) = W0 := ⟨_, rfl⟩
  have hb0 : Below w.heap.size w W0 := by rw [← hW0]; exact (Below.refl _ _).alloc (Nat.le_refl _) _
  have x0 : W0.heap[w.heap.size]? = some (.cells #[.slice ca d.classes.length cc, .int .i64 d.width, .slice na d.next.length nc, .slice ta d.tag.length tc, .slice ea d.fin.length ec] 26 (0, 0)) := by rw [← hW0]; exact heap_alloc_new _ _
  obtain ⟨q0, q1, q2, q3, q4⟩ := row_five x0
  have Hs0 : Hid _ := Hs.out.below hb0
  have Harr : Hid _ := arrows_ok _ _ _ _ d W0 Hs0.out hf
  have HF : Hid (DfaFine d) := hf
  have Hx0 : Hid _ := x0
  have Hb0 : Hid _ := hb0
  clear hf x0 hb0
  go_enter Try.func28, Try.ntmps28
  go_wp2_with fail
  refine Calls.mono Harr.out ?_
  rintro e w1 ⟨gI, vA, A, rfl, hAr, hAi, hb1⟩
  have HAr : Hid _ := hAr
  have HAi : Hid _ := hAi
  have Hs1 : Hid _ := Hs0.out.below hb1
  have Hx1 : Hid _ := row_below Hx0.out hb1
  have Hb1 : Hid _ := hb1
  clear hAr hAi hb1 q0 q1 q2 q3 q4 Harr hW0
  obtain ⟨q0, q1, q2, q3, q4⟩ := row_five Hx1.out
  have Hpa : Hid _ := partBy_ok _ _ _ _ d w1 Hs1.out HF.out
  go_wp2_with fail
  refine Calls.mono Hpa.out ?_
  rintro e w2 ⟨p, gmv, cm0, m, mi, v, l, N, o, wk, mem, rfl, hP1, hP2, hP3, hP4, hP5, hb2⟩
  have HP1 : Hid _ := hP1
  have HP2 : Hid _ := hP2
  have HP3 : Hid _ := hP3
  have HP4 : Hid _ := hP4
  have HP5 : Hid _ := hP5
  have Hb2 : Hid _ := hb2
  have Hx2 : Hid _ := row_below Hx1.out hb2
  clear hP1 hP2 hP3 hP4 hP5 hb2 q0 q1 q2 q3 q4 Hpa
  obtain ⟨q0, q1, q2, q3, q4⟩ := row_five Hx2.out
  go_wp2_with (refine wpList_make_full _ rfl _ _ 60 rfl w2.heap.size 68 iT _ 5 Try.underlying60 hjT hyT0 hyT1 _ _ _ _ d.tag.length rfl rfl rfl rfl (by rw [hyT2]; omega) (by unfold maxLen; omega) (Nat.le_refl _) ?_; intro w3 hown3 hgrow3)
  have hb3 : Below w2.heap.size w2 w3 := (Below.refl _ _).grown hgrow3 (Nat.le_refl _) (by intro k h; cases h)
  have r3 := own_fullS hown3
  rw [made_traits] at r3
  have HT : Hid (AlT w d w1.heap.size p W0.heap.size gI vA A w2.heap.size (2 * (d.tag.length - m) + wk.length) m gmv cm0 mi v l N o wk mem w3) := by
    have hB1 : Below w.heap.size w w1 := Hb0.out.trans (Hb1.out.mono Hb0.out.size)
    have hB2 : Below w.heap.size w w2 := hB1.trans (Hb2.out.mono hB1.size)
    have hm := HP2.out.le
    have hl := HP5.out
    refine ⟨HP1.out.on hb3, HP2.out, alike_start HF.out HP4.out, fun s t hs ht h => (HP3.out s t hs ht).2 h.an, fun s t hs ht h => (HP3.out s t hs ht).1 h, (HAr.out.below Hb2.out).below hb3, r3, hB2.trans (hb3.mono hB2.size), rfl, by omega⟩
  have HS : Hid (w.heap.size ≤ w1.heap.size ∧ w.heap.size ≤ w2.heap.size) := by
    have hB1 : Below w.heap.size w w1 := Hb0.out.trans (Hb1.out.mono Hb0.out.size)
    exact ⟨hB1.size, Nat.le_trans hB1.size Hb2.out.size⟩
  clear hown3 hgrow3 hb3 r3 HP1 HP2 HP3 HP4 HP5 Hx2 Hx1 Hx0 Hs0 Hs1 Hs q0 q1 q2 q3 q4
  go_loopg [] (2 * (d.tag.length - m) + wk.length) (fun k wr => ∃ (m gmv cm : Nat) (mi : Nat → Nat) (v : Nat → Value) (l : Nat → List Int) (N : Nat) (o wk : List Nat) (mem : Nat → List Nat), Hid (AlT w d w1.heap.size p W0.heap.size gI vA A w2.heap.size k m gmv cm mi v l N o wk mem wr))
  case atStart => exact ⟨m, gmv, cm0, mi, v, l, N, o, wk, mem, HT.out⟩
  case round =>
    clear HT
    obtain ⟨m, gmv, cm, mi, v, l, N, o, wk, mem, HT⟩ := hrel
    by_cases hw0 : 0 < wk.length
    · have hN2 := HT.out.pt.two
      obtain ⟨gw, cw, ew, hcw⟩ := HT.out.pt.fam.nats (i := 1) (by omega) HT.out.pt.l1 hw0
      have hbm := HT.out.pm.wl _ (getD_mem (show wk.length - 1 < wk.length by omega))
      have Hbw : Hid (wk.getD (wk.length - 1) 0 ∈ wk) := getD_mem (by omega)
      have cl := hcw (wk.length - 1) (by omega)
      have Hbe : Hid (∀ c ∈ wk, c ≠ wk.getD (wk.length - 1) 0 → c ∈ wk.take (wk.length - 1)) := fun c hc hne => by
        obtain ⟨i, hi, e⟩ := List.mem_iff_getElem.1 hc
        have hi2 : i ≠ wk.length - 1 := fun e2 => hne (by rw [← e, List.getD_eq_getElem?_getD, List.getElem?_eq_getElem (by omega)]; simp [e2])
        rw [← e]
        exact List.mem_iff_getElem.2 ⟨i, by rw [List.length_take]; omega, by simp⟩
      generalize hbq : wk.getD (wk.length - 1) 0 = b at *
      clear hbq
      obtain ⟨hib1, hib2⟩ := HT.out.pt.idx b hbm
      obtain ⟨gs, cs, es, hcs⟩ := HT.out.pt.fam.nats (i := mi b) hib2 (HT.out.pt.lm b hbm) (HT.out.pm.ne b hbm)
      have mc := (HT.out.pt.mCell hbm).1
      rw [es] at mc
      obtain ⟨⟨a0, c0⟩, e0⟩ := owns_formD (HT.out.pt.fam.own 0 (by omega))
      have fp := frozen_of_row _ _ 2 _ _ HT.out.pt.box
      obtain ⟨r0, r1, r2⟩ := row_threeD HT.out.pt.box
      rw [ew] at r2
      rw [e0] at r0
      have hmn := HT.out.pm.le
      have hcap := (own_form (HT.out.pt.fam.own 1 (by omega) |> fun h => by unfold Owns at h; rw [ew, HT.out.pt.l1, intsN_len] at h; exact h))
      have Hes : Hid _ := es
      have Hew : Hid _ := ew
      have hi1 : (b : Int) < (m : Int) := by omega
      have hke := HT.out.ke
      have hkl := HT.out.kl
      obtain ⟨wl, hwl⟩ : ∃ wl : Nat, wk.length - 1 = wl := ⟨_, rfl⟩
      rw [hwl] at cl
      have hwi : (wk.length : Int) - 1 = (wl : Int) := by omega
      have hwj : (wl : Int) < (wk.length : Int) := by omega
      have hwc : (wl : Int) ≤ (cw : Int) := by omega
      have Hcap : Hid _ := hcap
      have Hwl : Hid _ := hwl
      clear hcw hcs es ew e0 hcap hwl
      go_wp2
      go_quiet (fail)
      have HX4 : Hid _ := HT.out.pop (nq := nq) Hew.out (wl := wl) (by omega) HS.out.1 HS.out.2
      have Hmi : Hid (mi b < N ∧ 2 ≤ mi b) := ⟨hib2, hib1⟩
      have hml : (mem b).length ≤ d.tag.length := nodup_le _ _ (HT.out.pm.nd b hbm) (fun s hs => ((HT.out.pm.mm b hbm s).1 hs).1)
      have Hmem : Hid (∀ s ∈ mem b, s < d.tag.length) := fun s hs => ((HT.out.pm.mm b hbm s).1 hs).1
      generalize hv4 : upd (upd v 1 (.slice (some ⟨gw, 0, none⟩) wl cw)) N (.slice (some ⟨wr.heap.size, 0, none⟩) 0 0) = v4 at *
      generalize hl4 : updL (updL l 1 (intsN (wk.take wl))) N [] = l4 at *
      have Hvb : Hid (v4 (mi b) = .slice (some ⟨gs, 0, none⟩) (mem b).length cs ∧ l4 (mi b) = intsN (mem b)) := by
        rw [← hv4, ← hl4, upd_ne _ _ (by omega), upd_ne _ _ (by omega), updL_ne _ _ (by omega), updL_ne _ _ (by omega)]
        exact ⟨Hes.out, HT.out.pt.lm b hbm⟩
      clear hv4 hl4
      go_wp2
      clear r0 r1 r2 cl mc fp
      go_loopw [8, 60] (fun tv i W => ∃ (j gTo cTo : Nat) (v' : Nat → Value) (l' : Nat → List Int) (xs : List Nat) (T : Nat → Nat → Nat), j ≤ (mem b).length ∧ i = .int .i64 j ∧ tv = .slice (some ⟨gTo, 0, none⟩) xs.length cTo ∧ Hid (AlX w w1.heap.size p m gmv cm mi v4 l4 N o (wk.take wl) mem W0.heap.size gI d.tag.length vA A w2.heap.size (((mem b).take j).flatMap A) xs T gTo cTo v' l' W))
        (fun _ i _ => (mem b).length - (intOf i).toNat)
      case atStart => exact ⟨0, _, _, _, _, _, _, Nat.zero_le _, rfl, rfl, HX4.out⟩
      case round =>
        clear HX4
        obtain ⟨j, gTo, cTo, v', l', xs, T, hj, rfl, rfl, HX⟩ := hrel
        by_cases hj2 : j < (mem b).length
        · obtain ⟨gs', cs', e1, hcs⟩ := HX.out.st.pt.fam.nats (i := mi b) (by have := Hmi.out.1; omega) ((HX.out.old _ Hmi.out.1).2.trans Hvb.out.2) (by omega)
          rw [(HX.out.old _ Hmi.out.1).1, Hvb.out.1] at e1
          cases e1
          have c0 := hcs j hj2
          have hsn := Hmem.out _ (getD_mem hj2)
          have Htk : Hid _ := take_snocN hj2
          generalize (mem b).getD j 0 = s0 at *
          obtain ⟨⟨pa, pc⟩, hv⟩ := own_formT (HX.out.st.ar.rows s0 hsn)
          have o1 := HX.out.st.ar.out.cellAt s0 (by omega)
          rw [rowV_get vA hsn, hv] at o1
          have Hv : Hid _ := hv
          have hi2 : (j : Int) < ((mem b).length : Int) := by omega
          have hi3 : (s0 : Int) < (d.tag.length : Int) := by omega
          have hAl := HAi.out.len s0
          clear hv hcs
          obtain ⟨W5, hW5⟩ : ∃ W5, W5 = wr := ⟨_, rfl⟩
          subst hW5
          go_wp2
          clear c0 o1
          go_loopw [8, 69] (fun tv i W => ∃ (a gTo cTo : Nat) (v' : Nat → Value) (l' : Nat → List Int) (xs : List Nat) (T : Nat → Nat → Nat), a ≤ (A s0).length ∧ i = .int .i64 a ∧ tv = .slice (some ⟨gTo, 0, none⟩) xs.length cTo ∧ Hid (AlX w w1.heap.size p m gmv cm mi v4 l4 N o (wk.take wl) mem W0.heap.size gI d.tag.length vA A w2.heap.size (((mem b).take j).flatMap A ++ (A s0).take a) xs T gTo cTo v' l' W))
            (fun _ i _ => (A s0).length - (intOf i).toNat)
          case atStart => exact ⟨0, _, _, _, _, _, _, Nat.zero_le _, rfl, rfl, HX.out.congr (by simp)⟩
          case round =>
            clear HX
            obtain ⟨a, gTo, cTo, v', l', xs, T, ha, rfl, rfl, HX⟩ := hrel
            by_cases ha2 : a < (A s0).length
            · obtain ⟨f, c, hfc⟩ : ∃ f c, (A s0).getD a (0, 0) = (f, c) := ⟨_, _, rfl⟩
              obtain ⟨ga, rfl, z0, z1⟩ := HX.out.st.ar.arrow hsn ha2 Hv.out hfc
              obtain ⟨hfn0, hcu, _⟩ := (HAi.out.mem s0 (f, c)).1 (getD_memP ha2 hfc)
              have hfn : f < d.tag.length := by dsimp only at hfn0; omega
              have hc256 : c < 256 := by have := (usedF_mem.1 hcu).1; have := HF.out.wd.2.2; omega
              have Htk2 : Hid _ := take_snocP ha2 hfc
              clear hfn0 hcu hfc
              have hbA : Below wr.heap.size wr (wr.alloc (.cells #[.int .i64 (f : Int), .int .i64 (c : Int)] 65)) := (Below.refl _ _).alloc (Nat.le_refl _) _
              have HXa : Hid _ := HX.out.on hbA
              obtain ⟨Wa, hWa⟩ : ∃ Wa, wr.alloc (.cells #[.int .i64 (f : Int), .int .i64 (c : Int)] 65) = Wa := ⟨_, rfl⟩
              have xa : Wa.heap[wr.heap.size]? = some (.cells #[.int .i64 (f : Int), .int .i64 (c : Int)] 65 (0, 0)) := by rw [← hWa]; exact heap_alloc_new _ _
              rw [hWa] at HXa
              obtain ⟨t0, t1, t2, t3, t4⟩ := tr_cells HXa.out.st.tr hfn
              have y0 : Wa.cell? ⟨wr.heap.size, 0, none⟩ = some (.int .i64 (f : Int)) := by rw [cell_of_row _ _ _ _ _ _ xa]; rfl
              have y1 : Wa.cell? ⟨wr.heap.size, 1, none⟩ = some (.int .i64 (c : Int)) := by rw [cell_of_row _ _ _ _ _ _ xa]; rfl
              have hi4 : (a : Int) < ((A s0).length : Int) := by omega
              have hi5 : (f : Int) < (d.tag.length : Int) := by omega
              have Hxa : Hid _ := xa
              have HTlt : Hid _ := HX.out.ti.lt f
              have heq := Try.eqlZ (T f) (decide (f ∉ xs)) (by rw [decide_eq_decide]; exact HX.out.ti.zero f)
              clear hbA xa
              have t0' : Wa.cell? ⟨w2.heap.size, f * 5, none⟩ = some (.int .u64 0) := t0
              have t1' : Wa.cell? ⟨w2.heap.size, f * 5 + 1, none⟩ = some (.int .u64 (T f 0 : Int)) := t1
              have t2' : Wa.cell? ⟨w2.heap.size, f * 5 + 2, none⟩ = some (.int .u64 (T f 1 : Int)) := t2
              have t3' : Wa.cell? ⟨w2.heap.size, f * 5 + 3, none⟩ = some (.int .u64 (T f 2 : Int)) := t3
              have t4' : Wa.cell? ⟨w2.heap.size, f * 5 + 4, none⟩ = some (.int .u64 (T f 3 : Int)) := t4
              clear t0 t1 t2 t3 t4
              by_cases hfx : f ∈ xs
              · rw [decide_eq_false (fun h => h hfx)] at heq
                obtain ⟨tw1, tw2⟩ := tr_word HXa.out.st.tr hfn (q := c / 64) (by omega)
                have HN : Hid (∀ nq : Nat, AlX w w1.heap.size p m gmv cm mi v4 l4 N o (wk.take wl) mem W0.heap.size gI d.tag.length vA A w2.heap.size (((mem b).take j).flatMap A ++ (A s0).take a ++ [(f, c)]) xs (addTs T f c) gTo cTo v' l' ((Wa.drewN nq).setCell ⟨w2.heap.size, f * 5 + (c / 64 + 1), none⟩ (.int .u64 (bits BinOp.or .u64 (T f (c / 64) : Int) (IntKind.u64.wrap (2 ^ (c % 64))))))) := fun nq => by
                  rw [orW _ _ (HTlt.out _) (by omega)]
                  exact HXa.out.seen hfn hc256 hfx (below_drewN (Below.refl _ _) nq) rfl
                go_wp2
                clear heq t0' t1' t2' t3' t4' z0 z1 hWa
                have e1 : (c : Int) / 64 = ((c / 64 : Nat) : Int) := by omega
                have e2 : (c : Int) % 64 = ((c % 64 : Nat) : Int) := by omega
                have e3 : 1 + ((c / 64 : Nat) : Int) = ((c / 64 + 1 : Nat) : Int) := by omega
                have l1 : c / 64 + 1 < 5 := by omega
                have l2 : c % 64 < 64 := by omega
                generalize T f (c / 64) = tq at *
                generalize hq1 : c / 64 + 1 = q1 at *
                generalize hq : c / 64 = q at *
                generalize hr : c % 64 = r at *
                clear hq1 hq hr
                have i1 : (q1 : Int) < 5 := by omega
                have i3 : (0 : Int) ≤ (q : Int) := by omega
                refine wp_region_lastM 17 hmix (by kernel_rfl) rfl rfl rfl ?_
                intro os hos
                simp only [List.take_succ_cons, List.take_zero] at hos
                subst hos
                repeat (go_big_quiet_step (fail))
                refine wpQuiet_nil ?_
                intro w' hw' K hK
                obtain ⟨nq, rfl⟩ := hw'
                first | go_big_move | go_big_op
                refine hK _ _ ?_
                go_wp2
                go_roundw
                case rel => exact ⟨a + 1, gTo, cTo, v', l', xs, _, by omega, by go_num, rfl, (HN.out nq).congr (by rw [Htk2.out, List.append_assoc])⟩
                case measure => simp [intOf]; omega
              · rw [decide_eq_true hfx] at heq
                have hxl := HX.out.ti.len
                have hs5 := HXa.out.st.pt.size
                have Hvt : Hid _ := HXa.out.vt
                go_wp2_with (at_builtin; refine wpList_fam HXa.out.st.pt.fam _ rfl rfl (.tmp 80) (.tmp 83) rfl N (by omega) (intsN xs) HXa.out.lt xs.length (intsN_len _) (by exact Hvt.out.symm) (f : Int) rfl (by omega) hs5 ?_; intro g5 c5 w5 hF5 hg5; have Hx5 : Hid _ := HXa.out.st.pt.fam.others (i := N) (by omega) hg5 (by decide) Hxa.out; have HF5 : Hid _ := hF5; have HG5 : Hid _ := hg5; clear hF5 hg5)
                have y0' : w5.cell? ⟨wr.heap.size, 0, none⟩ = some (.int .i64 (f : Int)) := by rw [cell_of_row _ _ _ _ _ _ Hx5.out]; rfl
                have y1' : w5.cell? ⟨wr.heap.size, 1, none⟩ = some (.int .i64 (c : Int)) := by rw [cell_of_row _ _ _ _ _ _ Hx5.out]; rfl
                obtain ⟨tw1, tw2⟩ := tr_word (HXa.out.st.touch HF5.out HG5.out).tr hfn (q := c / 64) (by omega)
                have HN : Hid (∀ nq : Nat, AlX w w1.heap.size p m gmv cm mi v4 l4 N o (wk.take wl) mem W0.heap.size gI d.tag.length vA A w2.heap.size (((mem b).take j).flatMap A ++ (A s0).take a ++ [(f, c)]) (xs ++ [f]) (addTs T f c) g5 c5 (upd v' N (.slice (some ⟨g5, 0, none⟩) (xs.length + 1) c5)) (updL l' N (intsN xs ++ [(f : Int)])) ((w5.drewN nq).setCell ⟨w2.heap.size, f * 5 + (c / 64 + 1), none⟩ (.int .u64 (bits BinOp.or .u64 (T f (c / 64) : Int) (IntKind.u64.wrap (2 ^ (c % 64))))))) := fun nq => by
                  rw [orW _ _ (HTlt.out _) (by omega)]
                  exact HXa.out.new hfn hc256 hfx HF5.out HG5.out (below_drewN (Below.refl _ _) nq) rfl
                clear heq t0' t1' t2' t3' t4' z0 z1 hWa y0 y1
                have e1 : (c : Int) / 64 = ((c / 64 : Nat) : Int) := by omega
                have e2 : (c : Int) % 64 = ((c % 64 : Nat) : Int) := by omega
                have e3 : 1 + ((c / 64 : Nat) : Int) = ((c / 64 + 1 : Nat) : Int) := by omega
                have l1 : c / 64 + 1 < 5 := by omega
                have l2 : c % 64 < 64 := by omega
                generalize T f (c / 64) = tq at *
                generalize hq1 : c / 64 + 1 = q1 at *
                generalize hq : c / 64 = q at *
                generalize hr : c % 64 = r at *
                clear hq1 hq hr
                have i1 : (q1 : Int) < 5 := by omega
                have i3 : (0 : Int) ≤ (q : Int) := by omega
                refine wp_region_lastM 17 hmix (by kernel_rfl) rfl rfl rfl ?_
                intro os hos
                simp only [List.take_succ_cons, List.take_zero] at hos
                subst hos
                repeat (go_big_quiet_step (fail))
                refine wpQuiet_nil ?_
                intro w' hw' K hK
                obtain ⟨nq, rfl⟩ := hw'
                first | go_big_move | go_big_op
                refine hK _ _ ?_
                go_wp2
                go_roundw
                case rel => exact ⟨a + 1, g5, c5, _, _, xs ++ [f], _, by omega, by go_num, by simp, (HN.out nq).congr (by rw [Htk2.out, List.append_assoc])⟩
                case measure => simp [intOf]; omega
            · have haa : a = (A s0).length := by omega
              have HX' : Hid _ := HX.out.congr (ps' := ((mem b).take (j + 1)).flatMap A) (by rw [Htk.out, ← flat_snoc, haa, List.take_length])
              have hi4 : ¬(a : Int) < ((A s0).length : Int) := by omega
              clear haa
              go_wp2
              go_roundw
              case rel => exact ⟨j + 1, gTo, cTo, v', l', xs, T, by omega, by go_num, rfl, HX'.out⟩
              case measure => simp [intOf]; omega
        · have hjj : j = (mem b).length := by omega
          have HX' : Hid _ := HX.out.congr (ps' := (mem b).flatMap A) (by rw [hjj, List.take_length])
          have hi2 : ¬(j : Int) < ((mem b).length : Int) := by omega
          have hxl := HX.out.ti.len
          have Hspl : Hid _ := HX'.out.ti.spl HF.out HT.out.pm hbm HAi.out
          have hwt : (wk.take wl).length = wl := by rw [List.length_take]; omega
          have hcut := cut_ok N xs w2.heap.size d.tag.length (fun s => trW (T s)) wr HX.out.st.pt (HT.out.pm.fewer (fun c hc => List.mem_of_mem_take hc)) ⟨HX.out.st.two, by omega⟩ HX.out.lt HX.out.ti.nd HX.out.ti.xlt (by omega) (by omega) (by omega) HX.out.st.tr
          rw [HX.out.vt] at hcut
          clear hjj
          obtain ⟨W5, hW5⟩ : ∃ W5, W5 = wr := ⟨_, rfl⟩
          subst hW5
          go_wp2_with fail
          refine hcut.mono ?_
          rintro e w4 ⟨rfl, g', c', m', mi', v2, l2, N2, o2, wk2, mem2, X1, X2, X3, X4, X5, X6, X7, X8, X9, X10⟩
          have hgT : w2.heap.size ≠ gmv := fun e => by
            obtain ⟨cur, hc⟩ := own_slices HX.out.st.pt.out
            have ht := HX.out.st.tr
            rw [e, hc] at ht
            exact absurd (cells_typeM ht) (by decide)
          have ht4 := X9 _ _ _ (by decide) (by decide) hgT HX.out.st.tr
          have HA4 : Hid _ := HX.out.st.ar.kpp X9 (own_slices HX.out.st.pt.out)
          have hB4 : Below w.heap.size w w4 := HX.out.st.be.trans (X8.mono (by have := HX.out.st.ws; omega))
          obtain ⟨x61, x62⟩ := X6 N HX.out.st.two (by omega)
          have Hce : Hid (∀ W, w4.grownBy W (some w2.heap.size) → ∀ i, i < xs.length → W.cell? ⟨gTo, i, none⟩ = some (.int .i64 ((xs.getD i 0 : Nat) : Int))) := fun W hg i hi => by
            obtain ⟨g7, c7, e7, h7⟩ := X1.fam.nats (i := N) (by omega) (x62.trans HX.out.lt) (by omega)
            rw [x61, HX.out.vt] at e7
            cases e7
            obtain ⟨cur, hc⟩ := owns_int (X1.fam.own N (by omega)) (b := gTo) (by rw [x61, HX.out.vt]; rfl)
            rw [← h7 i hi]
            exact World.cell?_of_block (hg.block gTo (row_lt hc) (fun e => by
              have e2 : gTo = w2.heap.size := Option.some.inj e
              rw [e2, ht4] at hc
              exact absurd (cells_typeM hc) (by decide)))
          have Hm : Hid (2 * (d.tag.length - m') + wk2.length < gk ∧ 2 * (d.tag.length - m') + wk2.length ≤ 3 * d.tag.length) := by
            have := X2.le
            have := HT.out.ke
            have := HT.out.kl
            rw [hwt] at X5
            show _ ∧ _
            omega
          have HFin : Hid (∀ W, w4.grownBy W (some w2.heap.size) → W.heap[w2.heap.size]? = some (.cells (trRow d.tag.length (wipe xs T xs.length)) 68 (0, 0)) → AlT w d w1.heap.size p W0.heap.size gI vA A w2.heap.size (2 * (d.tag.length - m') + wk2.length) m' g' c' mi' v2 l2 N2 o2 wk2 mem2 W) := fun W hg ht => by
            rw [wipe_all HX.out.ti] at ht
            refine ⟨X1.traits ht4 hg, X2, Hspl.out.hop HF.out (fun c hc hne => by have := Hbe.out c hc hne; rw [Hwl.out] at this; exact this) X3 HT.out.hop, Hspl.out.alike HF.out X3 HT.out.al, fun s t hs ht' e => HT.out.an s t hs ht' ((X3.iff s t hs ht').1 e).1, HA4.out.far hg (fun q e => by cases e; exact ⟨_, _, ht4, by decide, by decide⟩), ht, hB4.grown hg hB4.size (fun q e => by cases e; exact HS.out.2), rfl, Hm.out.2⟩
          have ht0 : w4.heap[w2.heap.size]? = some (.cells (trRow d.tag.length (wipe xs T 0)) 68 (0, 0)) := by rw [wipe_zero]; exact ht4
          have Hxlt : Hid _ := HX.out.ti.xlt
          have Ht0 : Hid _ := ht0
          clear hcut X1 X2 X3 X4 X5 X6 X7 X8 X9 X10 hgT ht4 hB4 x61 x62 HX HX' ht0
          go_wp2
          go_loopw [110] (fun i W => ∃ (q : Nat), q ≤ xs.length ∧ i = .int .i64 q ∧ Hid (w4.grownBy W (some w2.heap.size)) ∧ Hid (W.heap[w2.heap.size]? = some (.cells (trRow d.tag.length (wipe xs T q)) 68 (0, 0))))
            (fun i _ => xs.length - (intOf i).toNat)
          case atStart => exact ⟨0, Nat.zero_le _, rfl, World.grownBy.refl _ _, Ht0⟩
          case round =>
            obtain ⟨q, hq, rfl, HG, HH⟩ := hrel
            by_cases hq2 : q < xs.length
            · have c0 := Hce.out wr HG.out q hq2
              have hs0 := Hxlt.out _ (getD_mem hq2)
              have Hsn : Hid _ := take_snocN hq2
              generalize xs.getD q 0 = s0 at *
              obtain ⟨z0, z1, z2, z3, z4⟩ := tr_cells HH.out hs0
              have fz : ∀ o, wr.frozen? ⟨w2.heap.size, o, none⟩ = false := fun _ => frozen_of_row _ _ _ _ _ HH.out
              have hset := set5_heap HH.out s0 kz
              rw [wipe_succ T Hsn.out] at hset
              have HN : Hid _ := hset
              have hi2 : (q : Int) < (xs.length : Int) := by omega
              have hi3 : (s0 : Int) < (d.tag.length : Int) := by omega
              clear hset
              go_wp2
              go_roundw
              case rel => exact ⟨q + 1, by omega, by go_num, HG.out.trans (((((grown_putM _ _ _ _).trans (grown_putM _ _ _ _)).trans (grown_putM _ _ _ _)).trans (grown_putM _ _ _ _)).trans (grown_putM _ _ _ _)), HN.out⟩
              case measure => simp [intOf]; omega
            · have hqq : q = xs.length := by omega
              have hi2 : ¬(q : Int) < (xs.length : Int) := by omega
              have HZ : Hid _ := HFin.out wr HG.out (by rw [← hqq]; exact HH.out)
              clear hqq
              go_wp2
              go_roundg (2 * (d.tag.length - m') + wk2.length)
              case measure => have h1 := Hm.out.1; have h2 := HT.out.ke; omega
              case rel => exact ⟨m', g', c', mi', v2, l2, N2, o2, wk2, mem2, HZ.out⟩
    · obtain ⟨⟨aw, cw⟩, ew⟩ := owns_formD (HT.out.pt.fam.own 1 (by have := HT.out.pt.two; omega))
      have hl0 : (l 1).length = 0 := by rw [HT.out.pt.l1, intsN_len]; omega
      rw [hl0] at ew
      obtain ⟨⟨a0, c0⟩, e0⟩ := owns_formD (HT.out.pt.fam.own 0 (by have := HT.out.pt.two; omega))
      obtain ⟨r0, r1, r2⟩ := row_threeD HT.out.pt.box
      rw [ew] at r2
      rw [e0] at r0
      have He0 : Hid _ := e0
      clear ew e0 hl0
      have HW : Hid (wk = []) := List.eq_nil_of_length_eq_zero (by omega)
      clear hw0
      generalize (l 0).length = n0 at *
      go_wp2
      refine bodyPost_ret (v := .slice a0 n0 c0) (by simp [results, Try.results28, go_sem]) rfl ?_
      have hm := HT.out.pm.le
      refine ⟨_, o, rfl, ?_, HT.out.pm.ln, fun s hs => Nat.lt_of_lt_of_le (HT.out.pm.lt s hs) hm, fun s t hs ht => ⟨fun e => part_done HF.out (by have := HT.out.hop; rw [HW.out] at this; exact this) HT.out.an hs ht e, fun h => HT.out.al s t hs ht h⟩, HT.out.be⟩
      rw [← He0.out, ← HT.out.pt.l0]
      exact own_monoN (HT.out.pt.fam.own 0 (by have := HT.out.pt.two; omega)) (by have := HS.out.1; omega)
end Go.Proofs.Ytgbdlgogccgciaa
