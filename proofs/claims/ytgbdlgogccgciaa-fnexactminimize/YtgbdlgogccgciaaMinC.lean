import Derived.Test.YtgbdlgogccgciaaMinAMinB
namespace Go.Proofs.Ytgbdlgogccgciaa
open Go.RowKit
attribute [local go_sem ↓] Go.wp_at_zero Go.wp_at_succ

theorem own_monoN {w : World} {base base' : Nat} {e : TypeId} {size : Nat} {v : Value} {n : Nat} {xs : List Value} (h : w.ownsRow base e size v n xs) (hb : base' ≤ base) : w.ownsRow base' e size v n xs :=
  ⟨h.1, h.2.imp id fun ⟨g, cap, cur, h1, h2, h3⟩ => ⟨g, cap, cur, h1, Nat.le_trans hb h2, h3⟩⟩
/-- Where l2Reached stands. -/
def RchW (W0 : World) (d : DfaD) (k c : Nat) (v : Value) (wr : World) : Prop :=
  ∃ (g cap : Nat) (l : List Nat), v = .slice (some ⟨g, 0, none⟩) l.length cap ∧ wr.ownsRow W0.heap.size 3 1 (.slice (some ⟨g, 0, none⟩) l.length cap) l.length (natL l) ∧ RchI d l k c ∧ Below W0.heap.size W0 wr

set_option maxRecDepth 100000 in
set_option maxHeartbeats 2000000 in
theorem l2Reached_ok {lo : Nat} (cv nv tv ev : Value) (d : DfaD) (w : World) (hs : DfaAt lo w cv nv tv ev d) (hf : DfaFine d) :
    Calls Try.prog 13 #[.agg #[cv, .int .i64 d.width, nv, tv, ev]] w fun e w' => ReR w d e w' := by
  obtain ⟨i0, hi, hz0, hz1, hz2⟩ := info_parts Try.infoInt
  obtain ⟨hw, hw1, hw2⟩ := hf.wd
  rw [hw]
  clear hw
  have hs0 := hs
  obtain ⟨⟨ca, cc, rfl, cm, cx⟩, ⟨na, nc, rfl, nm, nx⟩, ⟨ta, tc, rfl, tm, _⟩, ⟨ea, ec, rfl, em, _⟩⟩ := hs
  have hn1 := hf.n1
  have hn2 := hf.n2
  obtain ⟨nb, no, rfl, _, nl, nqc⟩ := nx (by rw [hf.nlen]; exact Nat.mul_pos (by omega) (by omega))
  obtain ⟨W0, hW0⟩ : ∃ W0, w.alloc (.cells #[.slice ca d.classes.length cc, .int .i64 (wdN d : Int), .slice (some ⟨nb, no, none⟩) d.next.length nc, .slice ta d.tag.length tc, .slice ea d.fin.length ec] 26) = W0 := ⟨_, rfl⟩
  have hb0 : Below w.heap.size w W0 := by rw [← hW0]; exact (Below.refl _ _).alloc (Nat.le_refl _) _
  have x0 : W0.heap[w.heap.size]? = some (.cells #[.slice ca d.classes.length cc, .int .i64 (wdN d : Int), .slice (some ⟨nb, no, none⟩) d.next.length nc, .slice ta d.tag.length tc, .slice ea d.fin.length ec] 26 (0, 0)) := by rw [← hW0]; exact heap_alloc_new _ _
  have hl0 : w.heap.size < W0.heap.size := (Array.getElem?_eq_some_iff.1 x0).1
  have hI0 : RchW W0 d 0 0 (.slice (some ⟨W0.heap.size, 0, none⟩) 1 1) (W0.alloc (.cells #[.int .i64 0] 3)) :=
    ⟨W0.heap.size, 1, [0], rfl, ⟨rfl, .inr ⟨_, _, _, rfl, Nat.le_refl _, heap_alloc_new _ _, Nat.le_refl _, by unfold maxLen; omega, rfl, rfl⟩⟩, rch_start d hf, (Below.refl _ _).alloc (Nat.le_refl _) _⟩
  go_enter Try.func13, Try.ntmps13
  go_wp2
  go_loopw [3, 4] (fun v i wr => ∃ k : Nat, i = .int .i64 k ∧ RchW W0 d k 0 v wr)
    (fun _ i _ => d.tag.length - (intOf i).toNat)
  case atStart => first | exact ⟨0, rfl, hI0⟩ | (refine ⟨0, rfl, ?_⟩; rw [← hW0] at hI0 ⊢; simpa using hI0)
  case round =>
    obtain ⟨k, rfl, g, cap, l, rfl, hown, hR, hb⟩ := hrel
    have hlen := nodup_le _ l hR.nd hR.lt
    by_cases hlt : k < l.length
    · have hi0 : (0 : Int) ≤ (k : Int) := by omega
      have hi1 : (k : Int) < (l.length : Int) := by omega
      go_wp2
      go_loopw [3, 5] (fun v i wr => ∃ (c g cap : Nat) (l : List Nat), c ≤ wdN d ∧ i = .int .i64 c ∧ v = .slice (some ⟨g, 0, none⟩) l.length cap ∧ k < l.length ∧ wr.ownsRow W0.heap.size 3 1 (.slice (some ⟨g, 0, none⟩) l.length cap) l.length (natL l) ∧ Hid (RchI d l k c) ∧ Below W0.heap.size W0 wr)
        (fun _ i _ => wdN d - (intOf i).toNat)
      case atStart => exact ⟨0, g, cap, l, Nat.zero_le _, rfl, rfl, hlt, hown, hR, hb⟩
      case round =>
        clear hown hR hb hlt hlen hi0 hi1
        obtain ⟨c, g, cap, l, hc, rfl, rfl, hlt, hown, HR, hb⟩ := hrel
        have hlen := nodup_le _ l HR.out.nd HR.out.lt
        have hi0 : (0 : Int) ≤ (k : Int) := by omega
        have hi1 : (k : Int) < (l.length : Int) := by omega
        have hx := (hb.block _ hl0).trans x0
        obtain ⟨q0, q1, q2, q3, q4⟩ := row_five hx
        by_cases hcl : c < wdN d
        · have hbw : Below w.heap.size w wr := hb0.trans (hb.mono hb0.size)
          have hsN : l.getD k 0 < d.tag.length := HR.out.lt _ (by rw [List.getD_eq_getElem?_getD, List.getElem?_eq_getElem hlt]; exact List.getElem_mem _)
          have c1 := hown.cellAt k (by omega)
          rw [natL_get l hlt] at c1
          have hnx := hf.nx hsN hcl
          have c2 := (hbw.cell (p := ⟨nb, no + (l.getD k 0 * wdN d + c), none⟩) nl).trans (nqc _ (hf.nidx hsN hcl))
          rw [hnx.1] at c2
          have hpl := l2Place_ok _ d.classes c wr (hs0.classes.below hbw)
          have hidx := hf.nidx hsN hcl
          have hmul : l.getD k 0 * wdN d ≤ 4000 * 256 := Nat.mul_le_mul (by omega) hw2
          have hpl2 : ∀ W : World, W.ownsRow W0.heap.size 3 1 (.slice (some ⟨g, 0, none⟩) l.length cap) l.length (natL l) → Calls Try.prog 16 #[.slice (some ⟨g, 0, none⟩) l.length cap, .int .i64 (nxN d (l.getD k 0) c)] W fun e w' => e = .returned (.int .i64 (plF (intsN l) (nxN d (l.getD k 0) c))) ∧ w' = W := fun W hW => l2Place_ok _ (intsN l) _ W (own_ints hW (by omega))
          have Hmem : Hid (plF (intsN l) (nxN d (l.getD k 0) c) < 0 ↔ nxN d (l.getD k 0) c ∉ l) := by
            show _ ↔ _
            rw [plF_neg]
            unfold intsN
            rw [List.mem_map]
            exact ⟨fun h hm => h ⟨_, hm, rfl⟩, fun h ⟨x, hx, e⟩ => h (by have e2 : x = nxN d (l.getD k 0) c := by omega
                                                                         exact e2 ▸ hx)⟩
          have Hsk : Hid (((c : Int) ∈ d.classes → nxN d (l.getD k 0) c ∈ l) → RchI d l k (c + 1)) := fun h => HR.out.skip h
          have Hmo : Hid (nxN d (l.getD k 0) c ∉ l → RchI d (l ++ [nxN d (l.getD k 0) c]) k (c + 1)) := fun h => HR.out.more hlt hnx.2 h rfl
          have Hused : Hid (0 ≤ plF d.classes c ↔ (c : Int) ∈ d.classes) := plF_mem
          generalize nxN d (l.getD k 0) c = y at *
          generalize l.getD k 0 = s0 at *
          generalize plF d.classes (c : Int) = pu at *
          generalize plF (intsN l) (y : Int) = pv at *
          have hj0 : (0 : Int) ≤ (s0 : Int) * (wdN d : Int) := Int.mul_nonneg (by omega) (by omega)
          have hj1 : (s0 : Int) * (wdN d : Int) ≤ 1024000 := by have : ((s0 * wdN d : Nat) : Int) ≤ ((4000 * 256 : Nat) : Int) := by exact_mod_cast hmul
                                                                simpa using this
          have hjn : ((s0 : Int) * (wdN d : Int) + (c : Int)) = ((s0 * wdN d + c : Nat) : Int) := by simp
          have hj2 : (s0 : Int) * (wdN d : Int) + (c : Int) < (d.next.length : Int) := by rw [hjn]; exact_mod_cast hidx
          have htn : ((s0 : Int) * (wdN d : Int) + (c : Int)).toNat = s0 * wdN d + c := by rw [hjn]; exact Int.toNat_natCast _
          rw [← htn] at c2
          have hx0 : 0 ≤ (s0 : Int) * (wdN d : Int) + (c : Int) := by omega
          have hx1 : (s0 : Int) * (wdN d : Int) + (c : Int) ≤ 2000000 := by omega
          clear htn hjn hidx hmul hnx
          obtain ⟨P, hP⟩ : ∃ P, (s0 : Int) * (wdN d : Int) = P := ⟨_, rfl⟩
          rw [hP] at hj0 hj1 hj2 c2 hx0 hx1
          have hi3 : (c : Int) < (wdN d : Int) := by omega
          have hB := hb.size
          by_cases hu : 0 ≤ pu
          · by_cases hv : pv < 0
            · go_wp2_with (go_at_call 16; refine hpl.mono ?_; rintro e w' ⟨rfl, hw'⟩; subst w')
              go_quiet (fail)
              have hbn : Below wr.heap.size wr (wr.drewN nq) := below_drewN (Below.refl _ _) nq
              have hown2 := ownsRow_below hown hbn
              have hpl3 := hpl2 _ hown2
              go_wp2_with (first | (go_at_call 16; refine hpl3.mono ?_; rintro e w' ⟨rfl, hw'⟩; subst w') | (refine wpList_append_oneH (wr.drewN nq) _ rfl rfl (.tmp 46) (.tmp 48) 22 rfl W0.heap.size 3 i0 (.int .i64 0) 8 Try.underlying22 hi hz0 hz1 hz2 rfl g cap l.length (natL l) (.int .i64 (y : Int)) rfl hown2 rfl rfl (by omega) (by omega) hB ?_; intro g' cap' w5 hown5 hgrow5 hat))
              go_roundw
              case rel => exact ⟨c + 1, g', cap', l ++ [y], by omega, by go_num, by simp, by simp; omega, by rw [natL_snoc]; simpa using hown5, Hmo.out (Hmem.out.1 (by omega)), (hb.trans (hbn.mono hB)).grown hgrow5 hB (fun q hq => by cases hq; exact (own_form hown).1)⟩
              case measure => simp [intOf]; omega
            · go_wp2_with (go_at_call 16; refine hpl.mono ?_; rintro e w' ⟨rfl, hw'⟩; subst w')
              go_quiet (fail)
              have hbn : Below wr.heap.size wr (wr.drewN nq) := below_drewN (Below.refl _ _) nq
              have hown2 := ownsRow_below hown hbn
              have hpl3 := hpl2 _ hown2
              go_wp2_with (go_at_call 16; refine hpl3.mono ?_; rintro e w' ⟨rfl, hw'⟩; subst w')
              go_roundw
              case rel => exact ⟨c + 1, g, cap, l, by omega, by go_num, rfl, hlt, hown2, Hsk.out (fun _ => by
                by_cases e : y ∈ l
                · exact e
                · exact absurd (Hmem.out.2 e) (by omega)), hb.trans (hbn.mono hB)⟩
              case measure => simp [intOf]; omega
          · go_wp2_with (go_at_call 16; refine hpl.mono ?_; rintro e w' ⟨rfl, hw'⟩; subst w')
            go_quiet (fail)
            have hbn : Below wr.heap.size wr (wr.drewN nq) := below_drewN (Below.refl _ _) nq
            have hown2 := ownsRow_below hown hbn
            go_wp2
            go_roundw
            case rel => exact ⟨c + 1, g, cap, l, by omega, by go_num, rfl, hlt, hown2, Hsk.out (fun e => absurd (Hused.out.2 e) (by omega)), hb.trans (hbn.mono hB)⟩
            case measure => simp [intOf]; omega
        · go_wp2
          go_roundw
          case rel => exact ⟨k + 1, by go_num, g, cap, l, rfl, hown, HR.out.row (by omega), hb⟩
          case measure => simp [intOf]; omega
    · have hfin := hR.end hf (by omega)
      have hbw : Below w.heap.size w wr := hb0.trans (hb.mono hb0.size)
      go_wp2
      refine bodyPost_ret (v := .slice (some ⟨g, 0, none⟩) l.length cap) (by simp [results, Try.results13, go_sem]) rfl ⟨g, cap, l, rfl, own_monoN hown (by omega), hfin, hbw⟩
end Go.Proofs.Ytgbdlgogccgciaa
