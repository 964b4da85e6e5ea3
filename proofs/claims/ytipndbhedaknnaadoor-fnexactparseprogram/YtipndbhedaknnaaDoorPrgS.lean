import Derived.Test.YtipndbhedaknnaaDoorPrgT
import Derived.Deep.RegionLaw
import Derived.Deep.Cut
import Derived.Deep.CutRange
namespace Go.Proofs.YtipndbhedaknnaaDoor
open Go.RowKit
attribute [local go_sem ↓] Go.wp_at_zero Go.wp_at_succ
attribute [local go_sem ↓] append_appC

/-- What a reader of programs answers. -/
def PrgAns (w : World) (r : PrD × Int × Int) (e : Ending) (w' : World) : Prop :=
  ∃ sv cv, e = .returned (.tuple #[.agg #[.int .i64 r.1.lim, .int .i64 r.1.most, sv], .int .i64 r.2.1, .int .i64 r.2.2]) ∧ PrV w.heap.size w' sv cv r.1.states ∧ Below w.heap.size w w'
theorem prgAns_bad {w W : World} {r : PrD × Int × Int} {c l : Int} (hr : r = (.zero, c, l)) (hb : Below w.heap.size w W) : PrgAns w r (.returned (.tuple #[.agg #[.int .i64 0, .int .i64 0, .slice none 0 0], .int .i64 c, .int .i64 l])) W := by
  subst hr
  exact ⟨.slice none 0 0, fun _ => .slice none 0 0, rfl, PrV.zero _ _ _, hb⟩
theorem PrV.base {B B' : Nat} {W : World} {sv : Value} {cv : Nat → Value} {ss : List StD} (h : PrV B W sv cv ss) (hB : B' ≤ B) : PrV B' W sv cv ss := by
  have key : ∀ {e : TypeId} {sz n : Nat} {v : Value} {xs : List Value}, W.ownsRow B e sz v n xs → W.ownsRow B' e sz v n xs := fun {e sz n v xs} ⟨h1, h2⟩ => ⟨h1, by
    rcases h2 with h0 | ⟨g, cap, cur, hv, hg, r⟩
    · exact .inl h0
    · exact .inr ⟨g, cap, cur, hv, by omega, r⟩⟩
  exact ⟨key h.row, fun i hi => key (h.cas i hi), h.apart⟩
set_option maxRecDepth 100000 in
set_option maxHeartbeats 40000000 in
theorem specProgram_ok (t : ByteArray) (w : World) (hsz : t.size ≤ 1048576) :
    Calls Tryd.prog 5 #[.string t] w fun e w' => PrgAns w (progF t) e w' := by
  by_cases h20 : 20000 < t.size
  · have HF : Hid (progF t = (.zero, 1, 0)) := by show _ = _; unfold progF; rw [if_pos h20]
    have h20' : (t.size : Int) > 20000 := by omega
    go_enter Tryd.func5, Tryd.ntmps5
    go_wp2
    exact bodyPost_ret (v := .tuple #[.agg #[.int .i64 0, .int .i64 0, .slice none 0 0], .int .i64 1, .int .i64 0]) (by simp [results, Tryd.results5, go_sem]) rfl (prgAns_bad HF.out ((Below.refl _ _).alloc (Nat.le_refl _) _))
  · have HS0 : Hid (PrgSt t 0 .zero) := PrgSt.start t h20
    have ht20 : t.size ≤ 20000 := by omega
    have h20' : ¬(t.size : Int) > 20000 := by omega
    have rr : ((w.alloc (.cells #[.int .i64 0, .int .i64 0, .slice none 0 0] 24)).alloc (.cells #[.int .i64 0, .int .i64 0, .slice none 0 0] 24)).heap[w.heap.size]? = some (.cells #[.int .i64 0, .int .i64 0, .slice none 0 0] 24 (0, 0)) := heap_alloc2_old _ _ _
    have rb : ((w.alloc (.cells #[.int .i64 0, .int .i64 0, .slice none 0 0] 24)).alloc (.cells #[.int .i64 0, .int .i64 0, .slice none 0 0] 24)).heap[w.heap.size + 1]? = some (.cells #[.int .i64 0, .int .i64 0, .slice none 0 0] 24 (0, 0)) := heap_alloc2_new _ _ _
    have hb0 : Below w.heap.size w ((w.alloc (.cells #[.int .i64 0, .int .i64 0, .slice none 0 0] 24)).alloc (.cells #[.int .i64 0, .int .i64 0, .slice none 0 0] 24)) := ((Below.refl _ _).alloc (Nat.le_refl _) _).alloc (by simp) _
    have hz0 : ((w.alloc (.cells #[.int .i64 0, .int .i64 0, .slice none 0 0] 24)).alloc (.cells #[.int .i64 0, .int .i64 0, .slice none 0 0] 24)).heap.size = w.heap.size + 2 := by simp
    go_enter Tryd.func5, Tryd.ntmps5
    go_wp2_with fail
    refine (l5Split_ok t 10 _ _ rfl hsz).mono ?_
    rintro e w1 ⟨lg, lcap, rfl, hl, hb1⟩
    obtain ⟨lines, hcl⟩ : ∃ ls, ls = cutF 10 t.data.toList := ⟨_, rfl⟩
    rw [← hcl] at hl ⊢
    have Hcl : Hid _ := hcl
    have hll : Hid (lines.length ≤ 20001) := by
      show _ ≤ _
      have := (cutF_len 10 t.data.toList).2
      rw [Array.length_toList] at this
      rw [hcl]
      exact Nat.le_trans this (by show t.size + 1 ≤ _; omega)
    have hlg := own_form hl
    have hz1 := hb1.size
    have R0 : RelP w w1.heap.size lg lcap lines w1 (.slice none 0 0) (fun _ => .slice none 0 0) .zero :=
      ⟨below_step hb0 hb0.size hb1, Nat.le_refl _, by rw [hz0] at hz1; exact hz1, hlg.2.1, by have := hlg.1; rw [hz0] at this; exact this, row_below rr hb1, row_below rb hb1, PrV.zero _ _ _, ⟨hl.1, by
        rcases hl.2 with h0 | ⟨g, cap, cur, hv, hg, r⟩
        · exact .inl h0
        · exact .inr ⟨g, cap, cur, hv, Nat.zero_le _, r⟩⟩⟩
    clear hcl hl hlg hz1 hz0 hb0 rr rb hb1
    generalize hB : w1.heap.size = B at R0
    clear hB
    go_wp2
    go_loopw [21] (fun iv wr => ∃ (k : Nat) (sv : Value) (cv : Nat → Value) (p : PrD), k ≤ lines.length ∧ iv = .int .i64 k ∧ Hid (PrgSt t k p) ∧ RelP w B lg lcap lines wr sv cv p)
      (fun i _ => lines.length - (intOf i).toNat)
    case atStart => exact ⟨0, _, _, .zero, Nat.zero_le _, rfl, HS0, R0⟩
    case round =>
      clear R0 HS0
      obtain ⟨k, sv, cv, p, hk, rfl, HS, R⟩ := hrel
      obtain ⟨lim, most, ss⟩ := p
      by_cases hlt : k < lines.length
      case neg =>
        have hge : (lines.length : Int) ≤ (k : Int) := by omega
        have hlt2 : ¬k < (cutF 10 t.data.toList).length := by rw [← Hcl.out]; exact hlt
        have cb := row_cells R.box
        have b0 := cb 0; have b1 := cb 1; have b2 := cb 2
        have cr := row_cells R.res
        have r0 := cr 0; have r1 := cr 1; have r2 := cr 2
        have fb0 := frozen_of_row _ _ 0 _ _ R.box
        have fr0 := frozen_of_row _ _ 0 _ _ R.res
        have fb1 := frozen_of_row _ _ 1 _ _ R.box
        have fr1 := frozen_of_row _ _ 1 _ _ R.res
        have fb2 := frozen_of_row _ _ 2 _ _ R.box
        have fr2 := frozen_of_row _ _ 2 _ _ R.res
        simp at b0 b1 b2 r0 r1 r2
        clear cb cr
        have lt1 : w.heap.size + 1 < wr.heap.size := row_lt R.box
        have lt0 : w.heap.size < wr.heap.size := by omega
        rcases nil_or_last ss with rfl | ⟨ini, s, rfl⟩
        · skip
          as_aux_lemma =>
            have HN : Hid _ := HS.out.none hlt2 rfl
            obtain ⟨ao, scap, rfl⟩ := R.nil
            have RB := R.below
            clear R HS hlt2
            go_wp2
            exact bodyPost_ret (v := .tuple #[.agg #[.int .i64 0, .int .i64 0, .slice none 0 0], .int .i64 5, .int .i64 0]) (by simp [results, Tryd.results5, go_sem, r0, r1, r2]) rfl (prgAns_bad HN.out (below_set3 RB (Nat.le_refl _) _ _ _))
        · skip
          as_aux_lemma =>
            have HN : Hid _ := HS.out.full hlt2 (by simp)
            obtain ⟨sg, scap, rfl⟩ := R.form
            have hlen := HS.out.few
            simp only [List.length_append, List.length_singleton] at hlen
            have HV : Hid _ := R.V
            have RB := R.below
            have RBs := R.base
            clear R HS hlt2
            go_wp2
            refine bodyPost_ret (v := .tuple #[.agg #[.int .i64 lim, .int .i64 most, .slice (some ⟨sg, 0, none⟩) (ini.length + 1) scap], .int .i64 0, .int .i64 0]) (by simp [results, Tryd.results5, go_sem, r0, r1, r2]) rfl ⟨_, cv, by rw [HN.out], ?_, below_set3 RB (Nat.le_refl _) _ _ _⟩
            rw [HN.out]
            exact ((HV.out).keep fun b hb => by have := ((HV.out).lt hb).1; rw [box_other _ _ _ _ (by omega), box_other _ _ _ _ (by omega), box_other _ _ _ _ (by omega)]).base (by omega)
      have hk20 : k ≤ 20000 := by have := hll.out; omega
      have c0 := R.lns.cell hlt
      have hlgs := (own_form R.lns).2.1
      unfold strV at c0
      have hi0 : (0 : Int) ≤ (k : Int) := by omega
      have hi1 : (k : Int) < (lines.length : Int) := by omega
      obtain ⟨rb, hrb⟩ : ∃ rb : ByteArray, rb = ⟨lines[k].toArray⟩ := ⟨_, rfl⟩
      rw [← hrb] at c0
      have HL : Hid (LineAt t k rb) := ⟨by rw [← Hcl.out]; exact hlt, by rw [hrb]; simp [← Hcl.out]⟩
      have hrs := HL.out.small ht20
      clear hrb
      cases he : rb.toList.isEmpty
      case true =>
        as_aux_lemma =>
          have HN : Hid (PrgSt t (k + 1) ⟨lim, most, ss⟩) := HS.out.skip HL.out (HL.out.skip0 he)
          go_wp2
          go_roundw
          case rel => exact ⟨k + 1, sv, cv, _, by omega, by go_num, HN, R⟩
          case measure => simp [intOf]; omega
      have hpos : 0 < rb.size := pos_of he
      have hpos' : (0 : Int) < (rb.size : Int) := by omega
      have HSK : Hid _ := HL.out.skip1 hpos
      by_cases h35 : (rb[0].toNat : Int) = 35
      · skip
        as_aux_lemma =>
          have HN : Hid (PrgSt t (k + 1) ⟨lim, most, ss⟩) := HS.out.skip HL.out (HSK.out.trans (by simpa using h35))
          go_wp2
          go_roundw
          case rel => exact ⟨k + 1, sv, cv, _, by omega, by go_num, HN, R⟩
          case measure => simp [intOf]; omega
      have hsk : Hid (skipF ((cutF 10 t.data.toList)[k]'(HL.out.lt)) = false) := HSK.out.trans (by simpa using h35)
      clear HSK
      go_wp2_with fail
      refine (l5Read_ok rb _ hrs).mono ?_
      rintro e w2 ⟨rfl, hb2⟩
      have R2 := R.call hb2
      clear R c0 hb2
      have hkey := readL_key (cutF 32 rb.data.toList)
      have hrd : readF rb.data.toList = readL (cutF 32 rb.data.toList) := rfl
      rw [← hrd] at hkey
      clear hrd
      cases hrf : readF rb.data.toList with
      | mk l ok =>
        rw [hrf] at hkey
        obtain ⟨key, x, y, tx, ⟨go, ex, send⟩⟩ := l
        simp only at hkey ⊢
        unfold lineV strV
        simp only
        obtain ⟨tb, htb⟩ : ∃ tb : ByteArray, tb = ⟨tx.toArray⟩ := ⟨_, rfl⟩
        obtain ⟨sb, hsb⟩ : ∃ sb : ByteArray, sb = ⟨send.toArray⟩ := ⟨_, rfl⟩
        rw [← htb, ← hsb]
        have Htb : Hid _ := htb
        have Hsb : Hid _ := hsb
        clear htb hsb
        have Hrf : Hid _ := hrf
        clear hrf
        have cb := row_cells R2.box
        have b0 := cb 0; have b1 := cb 1; have b2 := cb 2
        have cr := row_cells R2.res
        have r0 := cr 0; have r1 := cr 1; have r2 := cr 2
        have fb0 := frozen_of_row _ _ 0 _ _ R2.box
        have fr0 := frozen_of_row _ _ 0 _ _ R2.res
        have fb1 := frozen_of_row _ _ 1 _ _ R2.box
        have fr1 := frozen_of_row _ _ 1 _ _ R2.res
        have fb2 := frozen_of_row _ _ 2 _ _ R2.box
        have fr2 := frozen_of_row _ _ 2 _ _ R2.res
        simp at b0 b1 b2 r0 r1 r2
        clear cb cr
        have lt1 : w.heap.size + 1 < w2.heap.size := row_lt R2.box
        have lt0 : w.heap.size < w2.heap.size := by omega
        cases ok
        case false =>
          as_aux_lemma =>
            have HN : Hid _ := HS.out.bad HL.out hsk.out (by rw [Hrf.out])
            clear hkey
            go_wp2
            exact bodyPost_ret (v := .tuple #[.agg #[.int .i64 0, .int .i64 0, .slice none 0 0], .int .i64 2, .int .i64 ((k : Int) + 1)]) (by simp [results, Tryd.results5, go_sem, r0, r1, r2, lt0]) rfl (prgAns_bad HN.out ((below_set3 R2.below (Nat.le_refl _) _ _ _).alloc (by have := R2.below.size; simp [World.setCell]; omega) _))
        have hbase := R2.base
        have hwB := R2.size
        rcases hkey rfl with ⟨rfl, hx1⟩ | rfl | rfl | ⟨rfl, hx1⟩ | rfl
        all_goals clear hkey
        · skip
          by_cases hlim : lim > 0
          · skip
            as_aux_lemma =>
              have HN : Hid _ := HS.out.ordL HL.out hsk.out Hrf.out hlim
              obtain ⟨ao, scap, hsv⟩ := R2.slen; subst hsv; have hfew := HS.out.few; simp only at hfew
              go_wp2
              exact bodyPost_ret (v := .tuple #[.agg #[.int .i64 0, .int .i64 0, .slice none 0 0], .int .i64 3, .int .i64 ((k : Int) + 1)]) (by simp [results, Tryd.results5, go_sem, r0, r1, r2, lt0]) rfl (prgAns_bad HN.out ((below_set3 R2.below (Nat.le_refl _) _ _ _).alloc (by have := R2.below.size; simp [World.setCell]; omega) _))
          · skip
            as_aux_lemma =>
              have HN : Hid _ := HS.out.stpL HL.out hsk.out Hrf.out hlim
              obtain ⟨ao, scap, hsv⟩ := R2.slen; subst hsv; have hfew := HS.out.few; simp only at hfew
              have RN : Hid _ := (R2.lim x y).call ((Below.refl _ _).alloc (Nat.le_refl _) (.cells #[.int .u8 108, .int .i64 x, .int .i64 y, .string tb, .int .i64 go, .int .i64 ex, .string sb] 40))
              go_wp2
              go_roundw
              case rel => exact ⟨k + 1, _, cv, _, by omega, by go_num, HN, RN.out⟩
              case measure => simp [intOf]; omega
        · skip
          by_cases hlim : lim > 0
          case neg =>
            as_aux_lemma =>
              have HN : Hid _ := HS.out.ordS HL.out hsk.out Hrf.out hlim
              obtain ⟨ao, scap, hsv⟩ := R2.slen; subst hsv; have hfew := HS.out.few; simp only at hfew
              go_wp2
              exact bodyPost_ret (v := .tuple #[.agg #[.int .i64 0, .int .i64 0, .slice none 0 0], .int .i64 3, .int .i64 ((k : Int) + 1)]) (by simp [results, Tryd.results5, go_sem, r0, r1, r2, lt0]) rfl (prgAns_bad HN.out ((below_set3 R2.below (Nat.le_refl _) _ _ _).alloc (by have := R2.below.size; simp [World.setCell]; omega) _))
          by_cases hn : ss.length = 200
          case pos =>
            as_aux_lemma =>
              have HN : Hid _ := HS.out.manS HL.out hsk.out Hrf.out hlim hn
              obtain ⟨ao, scap, hsv⟩ := R2.slen; subst hsv; have hfew := HS.out.few; simp only at hfew
              have hn' : (ss.length : Int) = 200 := by omega
              clear hn
              go_wp2
              exact bodyPost_ret (v := .tuple #[.agg #[.int .i64 0, .int .i64 0, .slice none 0 0], .int .i64 4, .int .i64 ((k : Int) + 1)]) (by simp [results, Tryd.results5, go_sem, r0, r1, r2, lt0]) rfl (prgAns_bad HN.out ((below_set3 R2.below (Nat.le_refl _) _ _ _).alloc (by have := R2.below.size; simp [World.setCell]; omega) _))
          have HN : Hid _ := HS.out.stpS HL.out hsk.out Hrf.out hlim hn
          obtain ⟨ao, scap, hsv⟩ := R2.slen; subst hsv; have hfew := HS.out.few; simp only at hfew
          have hn' : ¬(ss.length : Int) = 200 := by omega
          clear hn
          obtain ⟨i0, hi, hz0, hz1, hz2⟩ := info_parts Tryd.infoState
          have R3 := R2.call ((Below.refl _ _).alloc (Nat.le_refl _) (.cells #[.int .u8 115, .int .i64 x, .int .i64 y, .string tb, .int .i64 go, .int .i64 ex, .string sb] 40))
          go_wp2_with (at_builtin; refine wpList_append_szW rfl (.tmp 149) (.tmp 153) 22 rfl (w2.alloc (.cells #[.int .u8 115, .int .i64 x, .int .i64 y, .string tb, .int .i64 go, .int .i64 ex, .string sb] 40)) #[.slice none 0 0, .int .i64 0, .int .i64 0, .int .i64 0, .string ⟨#[]⟩, .bool false, .int .i64 0, .int .i64 0, .string ⟨#[]⟩, .int .i64 x] 45 rfl (w2.heap.size + 1) (by simp) B i0 _ 10 112 Tryd.underlying22 hi hz0 hz1 hz2 rfl (by omega) _ ss.length (stsCells cv ss) rfl R3.V.row rfl rfl (by simp [Value.oneCell']) (by omega) (by omega) R3.size ?_; intro g' cap' w4 own4 grow4 at4; have bl4 : Below B _ w4 := Below.grow_over grow4 R3.size (fun b hb => (R3.V.lt (.inl hb)).1); have z0 := (bl4.cell (p := ⟨w.heap.size + 1, 0, none⟩) (by simp; omega)).trans (row_cells R3.box 0); have z1 := (bl4.cell (p := ⟨w.heap.size + 1, 1, none⟩) (by simp; omega)).trans (row_cells R3.box 1); have z2 := (bl4.cell (p := ⟨w.heap.size + 1, 2, none⟩) (by simp; omega)).trans (row_cells R3.box 2); have y2 := (bl4.frozen (p := ⟨w.heap.size + 1, 2, none⟩) (by simp; omega)).trans (frozen_of_row _ _ 2 _ _ R3.box); simp at z0 z1 z2)
          go_roundw
          case rel => exact ⟨k + 1, _, _, _, by omega, by go_num, HN, R3.push (s := .new x) rfl own4 grow4 at4⟩
          case measure => simp [intOf]; omega
        · skip
          rcases nil_or_last ss with rfl | ⟨ini, s, rfl⟩
          · skip
            as_aux_lemma =>
              have HN : Hid _ := HS.out.ordE HL.out hsk.out Hrf.out (by omega)
              obtain ⟨ao, scap, rfl⟩ := R2.nil
              by_cases hlim : lim > 0
              all_goals
                go_wp2
                exact bodyPost_ret (v := .tuple #[.agg #[.int .i64 0, .int .i64 0, .slice none 0 0], .int .i64 3, .int .i64 ((k : Int) + 1)]) (by simp [results, Tryd.results5, go_sem, r0, r1, r2, lt0]) rfl (prgAns_bad HN.out ((below_set3 R2.below (Nat.le_refl _) _ _ _).alloc (by have := R2.below.size; simp [World.setCell]; omega) _))
          obtain ⟨sg, scap, rfl⟩ := R2.form
          obtain ⟨hcs, ca, cc, hcv⟩ := R2.cs
          obtain ⟨s0, fs0⟩ := R2.last 0 (by omega)
          obtain ⟨s1, fs1⟩ := R2.last 1 (by omega)
          obtain ⟨s2, fs2⟩ := R2.last 2 (by omega)
          obtain ⟨s3, fs3⟩ := R2.last 3 (by omega)
          obtain ⟨s4, fs4⟩ := R2.last 4 (by omega)
          obtain ⟨s5, fs5⟩ := R2.last 5 (by omega)
          obtain ⟨s6, fs6⟩ := R2.last 6 (by omega)
          obtain ⟨s7, fs7⟩ := R2.last 7 (by omega)
          obtain ⟨s8, fs8⟩ := R2.last 8 (by omega)
          simp only [stCells, List.getElem?_cons_succ, List.getElem?_cons_zero, Nat.add_zero] at s0 s1 s2 s3 s4 s5 s6 s7 s8
          rw [Nat.add_zero] at fs0
          rw [hcv] at s0
          unfold strV at s4 s8
          obtain ⟨sgB, sgl⟩ := R2.sgB
          have hfew := HS.out.few
          simp only [List.length_append, List.length_singleton] at hfew
          have hfewc := HS.out.fewc s (by simp)
          by_cases hlim : lim > 0
          case neg =>
            as_aux_lemma =>
              clear hcs hcv
              have HN : Hid _ := HS.out.ordN HL.out hsk.out Hrf.out (by omega) hlim
              go_wp2
              exact bodyPost_ret (v := .tuple #[.agg #[.int .i64 0, .int .i64 0, .slice none 0 0], .int .i64 3, .int .i64 ((k : Int) + 1)]) (by simp [results, Tryd.results5, go_sem, r0, r1, r2, lt0]) rfl (prgAns_bad HN.out ((below_set3 R2.below (Nat.le_refl _) _ _ _).alloc (by have := R2.below.size; simp [World.setCell]; omega) _))
          by_cases hn : s.cases.length = 100
          case pos =>
            as_aux_lemma =>
              clear hcs hcv
              have HN : Hid _ := HS.out.manO HL.out hsk.out Hrf.out hlim hn
              have hn' : (s.cases.length : Int) = 100 := by omega
              clear hn
              go_wp2
              exact bodyPost_ret (v := .tuple #[.agg #[.int .i64 0, .int .i64 0, .slice none 0 0], .int .i64 4, .int .i64 ((k : Int) + 1)]) (by simp [results, Tryd.results5, go_sem, r0, r1, r2, lt0]) rfl (prgAns_bad HN.out ((below_set3 R2.below (Nat.le_refl _) _ _ _).alloc (by have := R2.below.size; simp [World.setCell]; omega) _))
          have HN : Hid _ := HS.out.stpO HL.out hsk.out Hrf.out hlim hn
          have hn' : ¬(s.cases.length : Int) = 100 := by omega
          clear hn
          obtain ⟨i0, hi, hz0, hz1, hz2⟩ := info_parts Tryd.infoCase
          have R3 := R2.call ((Below.refl _ _).alloc (Nat.le_refl _) (.cells #[.int .u8 111, .int .i64 x, .int .i64 y, .string tb, .int .i64 go, .int .i64 ex, .string sb] 40))
          have x3 : (w2.alloc (.cells #[.int .u8 111, .int .i64 x, .int .i64 y, .string tb, .int .i64 go, .int .i64 ex, .string sb] 40)).cell? ⟨w2.heap.size, 3, none⟩ = some (.string tb) := by simp
          have x4 : (w2.alloc (.cells #[.int .u8 111, .int .i64 x, .int .i64 y, .string tb, .int .i64 go, .int .i64 ex, .string sb] 40)).cell? ⟨w2.heap.size, 4, none⟩ = some (.int .i64 go) := by simp
          have x5 : (w2.alloc (.cells #[.int .u8 111, .int .i64 x, .int .i64 y, .string tb, .int .i64 go, .int .i64 ex, .string sb] 40)).cell? ⟨w2.heap.size, 5, none⟩ = some (.int .i64 ex) := by simp
          have x6 : (w2.alloc (.cells #[.int .u8 111, .int .i64 x, .int .i64 y, .string tb, .int .i64 go, .int .i64 ex, .string sb] 40)).cell? ⟨w2.heap.size, 6, none⟩ = some (.string sb) := by simp
          have xl : w2.heap.size < (w2.alloc (.cells #[.int .u8 111, .int .i64 x, .int .i64 y, .string tb, .int .i64 go, .int .i64 ex, .string sb] 40)).heap.size := by simp
          go_upto_region 33 with fail
          generalize w2.alloc (.cells #[.int .u8 111, .int .i64 x, .int .i64 y, .string tb, .int .i64 go, .int .i64 ex, .string sb] 40) = W3 at R3 x3 x4 x5 x6 xl ⊢
          generalize w2.heap.size = lb at x3 x4 x5 x6 xl ⊢
          clear R2 hcs s0 s1 s2 s3 s4 s5 s6 s7 s8 b0 b1 b2 r0 r1 r2 fb0 fb1 fb2 fr0 fr1 fr2 fs0 fs1 fs2 fs3 fs4 fs5 fs6 fs7 fs8
          have hcs := R3.cs.1
          obtain ⟨s0, fs0⟩ := R3.last 0 (by omega)
          simp only [stCells, List.getElem?_cons_zero, Nat.add_zero] at s0
          rw [Nat.add_zero] at fs0
          rw [hcv] at s0 hcs
          have b2 := row_cells R3.box 2
          simp at b2
          have hin0 : (0 : Int) ≤ (ini.length : Int) := by omega
          have hin1 : (ini.length : Int) < (ini.length : Int) + 1 := by omega
          have hin2 : (ini.length : Int) < ((ini.length + 1 : Nat) : Int) := by omega
          obtain ⟨sgB3, sgl3⟩ := R3.sgB
          have lb1 : w.heap.size + 1 < W3.heap.size := row_lt R3.box
          obtain ⟨g9, cap9, w9, hap9, own9, grow9, at9⟩ := appC_run (P := Tryd.prog) 43 W3 #[.string tb, .int .i64 go, .int .i64 ex, .string sb] 47 43 B i0 _ 4 48 Tryd.underlying43 hi hz0 hz1 hz2 rfl (by omega) _ s.cases.length (csCells s.cases) hcs rfl (by simp [Value.oneCell']) (by omega) (by omega) R3.size
          have bl9 : Below B W3 w9 := Below.grow_over grow9 R3.size (fun b hb => (R3.V.lt (.inr ⟨ini.length, by simp, by rw [hcv]; exact hb⟩)).1)
          have sk9 : w9.heap[sg]? = W3.heap[sg]? := grow9.block sg sgl3 (fun e => (R3.V.apart ini.length (by simp) sg (by rw [hcv]; exact e.symm)).1 rfl)
          have q0 := (World.cell?_of_block (a := ⟨sg, ini.length * 10, none⟩) sk9).trans s0
          have qf := (World.frozen?_of_block (a := ⟨sg, ini.length * 10, none⟩) sk9).trans fs0
          have y2 := (bl9.cell (p := ⟨w.heap.size + 1, 2, none⟩) (by have := R3.base; simp; omega)).trans b2
          have RN : Hid _ := R3.case (c := ⟨tx, ⟨go, ex, send⟩⟩) (by rw [Htb.out, Hsb.out] at own9; exact own9) (by rw [hcv]; exact grow9) (by rw [hcv]; exact at9)
          clear own9 grow9 at9 bl9 sk9 hcs
          go_region
          all_goals
            go_wp2
            go_roundw
            case rel => exact ⟨k + 1, _, _, _, by omega, by go_num, HN, RN.out⟩
            case measure => simp [intOf]; omega
        · skip
          rcases nil_or_last ss with rfl | ⟨ini, s, rfl⟩
          · skip
            as_aux_lemma =>
              have HN : Hid _ := HS.out.ordE HL.out hsk.out Hrf.out (by omega)
              obtain ⟨ao, scap, rfl⟩ := R2.nil
              by_cases hlim : lim > 0
              all_goals
                go_wp2
                exact bodyPost_ret (v := .tuple #[.agg #[.int .i64 0, .int .i64 0, .slice none 0 0], .int .i64 3, .int .i64 ((k : Int) + 1)]) (by simp [results, Tryd.results5, go_sem, r0, r1, r2, lt0]) rfl (prgAns_bad HN.out ((below_set3 R2.below (Nat.le_refl _) _ _ _).alloc (by have := R2.below.size; simp [World.setCell]; omega) _))
          obtain ⟨sg, scap, rfl⟩ := R2.form
          obtain ⟨hcs, ca, cc, hcv⟩ := R2.cs
          obtain ⟨s0, fs0⟩ := R2.last 0 (by omega)
          obtain ⟨s1, fs1⟩ := R2.last 1 (by omega)
          obtain ⟨s2, fs2⟩ := R2.last 2 (by omega)
          obtain ⟨s3, fs3⟩ := R2.last 3 (by omega)
          obtain ⟨s4, fs4⟩ := R2.last 4 (by omega)
          obtain ⟨s5, fs5⟩ := R2.last 5 (by omega)
          obtain ⟨s6, fs6⟩ := R2.last 6 (by omega)
          obtain ⟨s7, fs7⟩ := R2.last 7 (by omega)
          obtain ⟨s8, fs8⟩ := R2.last 8 (by omega)
          simp only [stCells, List.getElem?_cons_succ, List.getElem?_cons_zero, Nat.add_zero] at s0 s1 s2 s3 s4 s5 s6 s7 s8
          rw [Nat.add_zero] at fs0
          rw [hcv] at s0
          unfold strV at s4 s8
          obtain ⟨sgB, sgl⟩ := R2.sgB
          have hfew := HS.out.few
          simp only [List.length_append, List.length_singleton] at hfew
          clear hcs hcv
          by_cases hlim : lim > 0
          case neg =>
            as_aux_lemma =>
              have HN : Hid _ := HS.out.ordN HL.out hsk.out Hrf.out (by omega) hlim
              by_cases ht : s.tmo > 0
              all_goals
                go_wp2
                exact bodyPost_ret (v := .tuple #[.agg #[.int .i64 0, .int .i64 0, .slice none 0 0], .int .i64 3, .int .i64 ((k : Int) + 1)]) (by simp [results, Tryd.results5, go_sem, r0, r1, r2, lt0]) rfl (prgAns_bad HN.out ((below_set3 R2.below (Nat.le_refl _) _ _ _).alloc (by have := R2.below.size; simp [World.setCell]; omega) _))
          by_cases ht : s.tmo > 0
          case pos =>
            as_aux_lemma =>
              have HN : Hid _ := HS.out.ordT HL.out hsk.out Hrf.out ht
              go_wp2
              exact bodyPost_ret (v := .tuple #[.agg #[.int .i64 0, .int .i64 0, .slice none 0 0], .int .i64 3, .int .i64 ((k : Int) + 1)]) (by simp [results, Tryd.results5, go_sem, r0, r1, r2, lt0]) rfl (prgAns_bad HN.out ((below_set3 R2.below (Nat.le_refl _) _ _ _).alloc (by have := R2.below.size; simp [World.setCell]; omega) _))
          as_aux_lemma =>
            have HN : Hid _ := HS.out.stpT HL.out hsk.out Hrf.out hlim ht
            have RN : Hid _ := (R2.tmo x go ex send).call ((Below.refl _ _).alloc (Nat.le_refl _) (.cells #[.int .u8 116, .int .i64 x, .int .i64 y, .string tb, .int .i64 go, .int .i64 ex, .string sb] 40))
            unfold strV at RN
            rw [← Hsb.out] at RN
            go_wp2
            go_roundw
            case rel => exact ⟨k + 1, _, cv, _, by omega, by go_num, HN, RN.out⟩
            case measure => simp [intOf]; omega
        · skip
          rcases nil_or_last ss with rfl | ⟨ini, s, rfl⟩
          · skip
            as_aux_lemma =>
              have HN : Hid _ := HS.out.ordE HL.out hsk.out Hrf.out (by omega)
              obtain ⟨ao, scap, rfl⟩ := R2.nil
              by_cases hlim : lim > 0
              all_goals
                go_wp2
                exact bodyPost_ret (v := .tuple #[.agg #[.int .i64 0, .int .i64 0, .slice none 0 0], .int .i64 3, .int .i64 ((k : Int) + 1)]) (by simp [results, Tryd.results5, go_sem, r0, r1, r2, lt0]) rfl (prgAns_bad HN.out ((below_set3 R2.below (Nat.le_refl _) _ _ _).alloc (by have := R2.below.size; simp [World.setCell]; omega) _))
          obtain ⟨sg, scap, rfl⟩ := R2.form
          obtain ⟨hcs, ca, cc, hcv⟩ := R2.cs
          obtain ⟨s0, fs0⟩ := R2.last 0 (by omega)
          obtain ⟨s1, fs1⟩ := R2.last 1 (by omega)
          obtain ⟨s2, fs2⟩ := R2.last 2 (by omega)
          obtain ⟨s3, fs3⟩ := R2.last 3 (by omega)
          obtain ⟨s4, fs4⟩ := R2.last 4 (by omega)
          obtain ⟨s5, fs5⟩ := R2.last 5 (by omega)
          obtain ⟨s6, fs6⟩ := R2.last 6 (by omega)
          obtain ⟨s7, fs7⟩ := R2.last 7 (by omega)
          obtain ⟨s8, fs8⟩ := R2.last 8 (by omega)
          simp only [stCells, List.getElem?_cons_succ, List.getElem?_cons_zero, Nat.add_zero] at s0 s1 s2 s3 s4 s5 s6 s7 s8
          rw [Nat.add_zero] at fs0
          rw [hcv] at s0
          unfold strV at s4 s8
          obtain ⟨sgB, sgl⟩ := R2.sgB
          have hfew := HS.out.few
          simp only [List.length_append, List.length_singleton] at hfew
          clear hcs hcv
          by_cases hlim : lim > 0
          case neg =>
            as_aux_lemma =>
              have HN : Hid _ := HS.out.ordN HL.out hsk.out Hrf.out (by omega) hlim
              cases ht : s.full
              all_goals
                rw [ht] at s5
                go_wp2
                exact bodyPost_ret (v := .tuple #[.agg #[.int .i64 0, .int .i64 0, .slice none 0 0], .int .i64 3, .int .i64 ((k : Int) + 1)]) (by simp [results, Tryd.results5, go_sem, r0, r1, r2, lt0]) rfl (prgAns_bad HN.out ((below_set3 R2.below (Nat.le_refl _) _ _ _).alloc (by have := R2.below.size; simp [World.setCell]; omega) _))
          cases ht : s.full
          case true =>
            as_aux_lemma =>
              have HN : Hid _ := HS.out.ordF HL.out hsk.out Hrf.out ht
              rw [ht] at s5
              go_wp2
              exact bodyPost_ret (v := .tuple #[.agg #[.int .i64 0, .int .i64 0, .slice none 0 0], .int .i64 3, .int .i64 ((k : Int) + 1)]) (by simp [results, Tryd.results5, go_sem, r0, r1, r2, lt0]) rfl (prgAns_bad HN.out ((below_set3 R2.below (Nat.le_refl _) _ _ _).alloc (by have := R2.below.size; simp [World.setCell]; omega) _))
          as_aux_lemma =>
            have HN : Hid _ := HS.out.stpF HL.out hsk.out Hrf.out hlim ht
            rw [ht] at s5
            have RN : Hid _ := (R2.ful go ex send).call ((Below.refl _ _).alloc (Nat.le_refl _) (.cells #[.int .u8 102, .int .i64 x, .int .i64 y, .string tb, .int .i64 go, .int .i64 ex, .string sb] 40))
            unfold strV at RN
            rw [← Hsb.out] at RN
            go_wp2
            go_roundw
            case rel => exact ⟨k + 1, _, cv, _, by omega, by go_num, HN, RN.out⟩
            case measure => simp [intOf]; omega
end Go.Proofs.YtipndbhedaknnaaDoor
