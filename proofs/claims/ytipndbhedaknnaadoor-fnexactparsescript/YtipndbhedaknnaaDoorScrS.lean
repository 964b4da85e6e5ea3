import Derived.Test.YtipndbhedaknnaaDoorScrL
namespace Go.Proofs.YtipndbhedaknnaaDoor
open Go.RowKit
attribute [local go_sem ↓] Go.wp_at_zero Go.wp_at_succ

set_option maxRecDepth 100000 in
set_option maxHeartbeats 4000000 in
theorem specScript_ok (t : ByteArray) (w : World) (hsz : t.size ≤ 1048576) :
    Calls Tryd.prog 10 #[.string t] w fun e w' => ScrAns w (scriptF t) e w' := by
  obtain ⟨i0, hi, hz0, hz1, hz2⟩ := info_parts Tryd.infoEv
  by_cases h20 : 20000 < t.size
  · have HF : Hid (scriptF t = ([], 1, 0)) := by show _ = _; unfold scriptF; rw [if_pos h20]
    have h20' : (t.size : Int) > 20000 := by omega
    go_enter Tryd.func10, Tryd.ntmps10
    go_wp2
    exact bodyPost_ret (v := .tuple #[.slice (some ⟨w.heap.size, 0, none⟩) 0 0, .int .i64 1, .int .i64 0]) (by simp [results, Tryd.results10, go_sem]) rfl (scrAns_bad HF.out (Below.refl _ _))
  · have HS0 : Hid (ScrSt t 0 []) := ScrSt.start t h20
    have ht20 : t.size ≤ 20000 := by omega
    have h20' : ¬(t.size : Int) > 20000 := by omega
    go_enter Tryd.func10, Tryd.ntmps10
    go_wp2_with fail
    refine (l5Split_ok t 10 _ _ rfl hsz).mono ?_
    rintro e w1 ⟨lg, lcap, rfl, hl, hb1⟩
    obtain ⟨lines, hcl⟩ : ∃ ls, ls = cutF 10 t.data.toList := ⟨_, rfl⟩
    rw [← hcl] at hl ⊢
    have Hcl : Hid _ := hcl
    have hll : Hid (lines.length ≤ 20001) := by
      show _ ≤ _
      have := (cutF_len 10 t.data.toList).2
      rw [Array.length_toList] at this
      rw [hcl]
      exact Nat.le_trans this (by show t.size + 1 ≤ _; omega)
    have hlg : w.heap.size < lg := by have := (own_form hl).1; simp at this; omega
    clear hcl
    go_wp2
    go_loopw [5, 20] (fun ev iv wr => ∃ (k g cap : Nat) (evs : List (Int × List UInt8)), k ≤ lines.length ∧ iv = .int .i64 k ∧ ev = .slice (some ⟨g, 0, none⟩) evs.length cap ∧ Hid (ScrSt t k evs) ∧ Evs w.heap.size wr g cap evs ∧ g ≠ lg ∧ Strs (w.heap.size + 1) wr lg lcap lines ∧ Below w.heap.size w wr)
      (fun _ i _ => lines.length - (intOf i).toNat)
    case atStart => exact ⟨0, w.heap.size, 0, [], Nat.zero_le _, rfl, rfl, HS0, ownsRow_below (ownsRow_newN w _ 2) hb1, by omega, by simpa using hl, below_step ((Below.refl _ _).alloc (Nat.le_refl _) _) (by simp) hb1⟩
    case round =>
      obtain ⟨k, g, cap, evs, hk, rfl, rfl, HS, hown, hne, hls, hb⟩ := hrel
      clear hl hb1
      have hbs := hb.size
      obtain ⟨hgB, hgl, _, _⟩ := own_formN hown
      have hev := HS.out.few
      by_cases hlt : k < lines.length
      case neg =>
        have HN : Hid (scriptF t = (evs, 0, 0)) := HS.out.full (by rw [← Hcl.out]; exact hlt)
        have hge : (lines.length : Int) ≤ (k : Int) := by omega
        go_wp2
        exact bodyPost_ret (v := .tuple #[.slice (some ⟨g, 0, none⟩) evs.length cap, .int .i64 0, .int .i64 0]) (by simp [results, Tryd.results10, go_sem]) rfl ⟨g, cap, by rw [HN.out], by rw [HN.out]; exact hown, hb⟩
      have hk20 : k ≤ 20000 := by have := hll.out; omega
      have c0 := hls.cell hlt
      have hlgs := (own_form hls).2.1
      unfold strV at c0
      have hi0 : (0 : Int) ≤ (k : Int) := by omega
      have hi1 : (k : Int) < (lines.length : Int) := by omega
      obtain ⟨rb, hrb⟩ : ∃ rb : ByteArray, rb = ⟨lines[k].toArray⟩ := ⟨_, rfl⟩
      rw [← hrb] at c0
      have HL : Hid (LineAt t k rb) := ⟨by rw [← Hcl.out]; exact hlt, by rw [hrb]; simp [← Hcl.out]⟩
      have hrs := HL.out.small ht20
      clear hrb
      cases he : rb.toList.isEmpty
      case true =>
        have HN : Hid (ScrSt t (k + 1) evs) := HS.out.skip HL.out.lt (HL.out.skip0 he)
        go_wp2
        go_roundw
        case rel => exact ⟨k + 1, g, cap, evs, by omega, by go_num, rfl, HN, hown, hne, hls, hb⟩
        case measure => simp [intOf]; omega
      have hpos : 0 < rb.size := pos_of he
      have hpos' : (0 : Int) < (rb.size : Int) := by omega
      have HSK : Hid _ := HL.out.skip1 hpos
      by_cases h35 : (rb[0].toNat : Int) = 35
      · have HN : Hid (ScrSt t (k + 1) evs) := HS.out.skip HL.out.lt (HSK.out.trans (by simpa using h35))
        go_wp2
        go_roundw
        case rel => exact ⟨k + 1, g, cap, evs, by omega, by go_num, rfl, HN, hown, hne, hls, hb⟩
        case measure => simp [intOf]; omega
      have hsk : Hid (skipF ((cutF 10 t.data.toList)[k]'(HL.out.lt)) = false) := HSK.out.trans (by simpa using h35)
      clear HSK
      go_wp2_with fail
      refine (l5Split_ok rb 32 _ _ rfl (by omega)).mono ?_
      rintro e w2 ⟨fg, fcap, rfl, hf, hb2⟩
      have hbw := below_step hb hb.size hb2
      have hown2 := ownsRow_below hown hb2
      have hls2 := hls.below hb2
      have hz2' := hb2.size
      have hlg2 : lg < w2.heap.size := by omega
      clear c0 hown hls hb
      obtain ⟨fs, hfs⟩ : ∃ fs, fs = cutF 32 rb.data.toList := ⟨_, rfl⟩
      rw [← hfs] at hf ⊢
      have Hfs : Hid _ := hfs
      have hfl : 1 ≤ fs.length := by rw [hfs]; exact (cutF_len 32 _).1
      have hfe : Hid (∀ l ∈ fs, l.length ≤ 20000) := by
        rw [hfs]
        intro l hl
        have := cutF_each 32 _ l hl
        rw [Array.length_toList] at this
        exact Nat.le_trans this hrs
      clear hfs
      have hfbl := (own_form hf).2.1
      cases htick : rb.toList == [116, 105, 99, 107]
      case true =>
        have HE := evF_tick htick
        rw [← HL.out.eq] at HE
        by_cases hm : evs.length = 4000
        · have HN : Hid _ := HS.out.many HL.out.lt hsk.out HE hm
          clear HE
          have hm' : (evs.length : Int) = 4000 := by omega
          clear hm
          go_wp2
          exact bodyPost_ret (v := .tuple #[.slice (some ⟨w2.heap.size + 1, 0, none⟩) 0 0, .int .i64 3, .int .i64 ((k : Int) + 1)]) (by simp [results, Tryd.results10, go_sem]) rfl (by have := scrAns_bad HN.out (hbw.alloc hbw.size (.cells #[.int .i64 2, .string ⟨#[]⟩] 58)); simpa using this)
        · have HN : Hid _ := HS.out.one HL.out.lt hsk.out HE hm
          clear HE
          have hm' : ¬(evs.length : Int) = 4000 := by omega
          clear hm
          go_wp2_with (refine wpList_append_pair (w2.alloc (.cells #[.int .i64 2, .string ⟨#[]⟩] 58)) (w2.heap.size + 1) (by simp) rfl (.tmp 76) (.tmp 78) 30 rfl w.heap.size 58 i0 _ 24 Tryd.underlying30 hi hz0 hz1 hz2 rfl g cap evs.length (evCells evs) _ _ rfl (hown2.alloc _) rfl rfl rfl (by omega) (by omega) (hbw.alloc hbw.size (.cells #[.int .i64 2, .string ⟨#[]⟩] 58)).size ?_; intro g' cap' w4 own4 grow4 at4)
          go_roundw
          case rel => exact ⟨k + 1, g', cap', evs ++ [(2, [])], by omega, by go_num, by simp, HN, by unfold Evs; rw [evCells_app]; simpa [evCells, strV] using own4, by rcases at4 with rfl | rfl <;> (try simp) <;> omega, ownsRow_block hls2 ((grow4.block lg (by simp; omega) (by simp; omega)).trans (Below.heap_alloc _ _ _ hlg2)), (hbw.alloc hbw.size (.cells #[.int .i64 2, .string ⟨#[]⟩] 58)).grown grow4 (hbw.alloc hbw.size (.cells #[.int .i64 2, .string ⟨#[]⟩] 58)).size (by intro q hq; cases hq; exact hgB)⟩
          case measure => simp [intOf]; omega
      cases heof : rb.toList == [101, 111, 102]
      case true =>
        have HE := evF_eof heof htick
        rw [← HL.out.eq] at HE
        by_cases hm : evs.length = 4000
        · have HN : Hid _ := HS.out.many HL.out.lt hsk.out HE hm
          clear HE
          have hm' : (evs.length : Int) = 4000 := by omega
          clear hm
          go_wp2
          exact bodyPost_ret (v := .tuple #[.slice (some ⟨w2.heap.size + 1, 0, none⟩) 0 0, .int .i64 3, .int .i64 ((k : Int) + 1)]) (by simp [results, Tryd.results10, go_sem]) rfl (by have := scrAns_bad HN.out (hbw.alloc hbw.size (.cells #[.int .i64 3, .string ⟨#[]⟩] 58)); simpa using this)
        · have HN : Hid _ := HS.out.one HL.out.lt hsk.out HE hm
          clear HE
          have hm' : ¬(evs.length : Int) = 4000 := by omega
          clear hm
          go_wp2_with (refine wpList_append_pair (w2.alloc (.cells #[.int .i64 3, .string ⟨#[]⟩] 58)) (w2.heap.size + 1) (by simp) rfl (.tmp 76) (.tmp 78) 30 rfl w.heap.size 58 i0 _ 24 Tryd.underlying30 hi hz0 hz1 hz2 rfl g cap evs.length (evCells evs) _ _ rfl (hown2.alloc _) rfl rfl rfl (by omega) (by omega) (hbw.alloc hbw.size (.cells #[.int .i64 3, .string ⟨#[]⟩] 58)).size ?_; intro g' cap' w4 own4 grow4 at4)
          go_roundw
          case rel => exact ⟨k + 1, g', cap', evs ++ [(3, [])], by omega, by go_num, by simp, HN, by unfold Evs; rw [evCells_app]; simpa [evCells, strV] using own4, by rcases at4 with rfl | rfl <;> (try simp) <;> omega, ownsRow_block hls2 ((grow4.block lg (by simp; omega) (by simp; omega)).trans (Below.heap_alloc _ _ _ hlg2)), (hbw.alloc hbw.size (.cells #[.int .i64 3, .string ⟨#[]⟩] 58)).grown grow4 (hbw.alloc hbw.size (.cells #[.int .i64 3, .string ⟨#[]⟩] 58)).size (by intro q hq; cases hq; exact hgB)⟩
          case measure => simp [intOf]; omega
      have HE := evF_else heof htick
      rw [← Hfs.out] at HE
      have d0 := hf.cell (j := 0) hfl
      unfold strV at d0
      obtain ⟨fb, hfb⟩ : ∃ fb : ByteArray, fb = ⟨fs[0].toArray⟩ := ⟨_, rfl⟩
      rw [← hfb] at d0
      have hfb0 : fs.getD 0 [] = fb.data.toList := by rw [hfb, List.getD_eq_getElem?_getD, List.getElem?_eq_getElem hfl]; rfl
      have hj0 : (0 : Int) < (fs.length : Int) := by omega
      clear hfb
      cases hin : fb.toList == [105, 110]
      case false =>
        have hx := in_of hfb0 _ hin
        rw [evIn_not (by simpa using hx), ← HL.out.eq] at HE
        have HN : Hid _ := HS.out.bad HL.out.lt hsk.out HE
        clear HE hx hfb0
        go_wp2
        exact bodyPost_ret (v := .tuple #[.slice (some ⟨w2.heap.size + 1, 0, none⟩) 0 0, .int .i64 2, .int .i64 ((k : Int) + 1)]) (by simp [results, Tryd.results10, go_sem]) rfl (by have := scrAns_bad HN.out (hbw.alloc hbw.size (.cells #[.int .i64 0, .string ⟨#[]⟩] 58)); simpa using this)
      have hx := in_of hfb0 _ hin
      clear hfb0
      by_cases hl2 : fs.length = 2
      case neg =>
        rw [evIn_len hl2, ← HL.out.eq] at HE
        have HN : Hid _ := HS.out.bad HL.out.lt hsk.out HE
        have hl2' : ¬(fs.length : Int) = 2 := by omega
        clear HE hx hl2
        go_wp2
        exact bodyPost_ret (v := .tuple #[.slice (some ⟨w2.heap.size + 1, 0, none⟩) 0 0, .int .i64 2, .int .i64 ((k : Int) + 1)]) (by simp [results, Tryd.results10, go_sem]) rfl (by have := scrAns_bad HN.out (hbw.alloc hbw.size (.cells #[.int .i64 0, .string ⟨#[]⟩] 58)); simpa using this)
      have d1 := hf.cell (j := 1) (by omega)
      unfold strV at d1
      obtain ⟨db, hdb⟩ : ∃ db : ByteArray, db = ⟨fs[1].toArray⟩ := ⟨_, rfl⟩
      rw [← hdb] at d1
      have hdb0 : fs.getD 1 [] = db.data.toList := by rw [hdb, List.getD_eq_getElem?_getD, List.getElem?_eq_getElem (by omega)]; rfl
      have hds : db.size ≤ 1048576 := by
        have := hfe.out fs[1] (List.getElem_mem (by omega))
        rw [hdb]
        show fs[1].toArray.size ≤ _
        simp
        omega
      rw [evIn_in hl2 (by simpa using hx), hdb0, ← HL.out.eq] at HE
      have hl2' : (fs.length : Int) = 2 := by omega
      have hl2'' : ((fs.length : Int) == 2) = true := by simp [hl2]
      clear hdb hx hdb0 hl2
      go_wp2_with fail
      refine (l5Word_ok db _ hds).mono ?_
      rintro e w3 ⟨rfl, hb3⟩
      have hbw3 := below_step (hbw.alloc hbw.size _) (by have := hbw.size; simp; omega) hb3
      have hown3 := ownsRow_below (hown2.alloc _) hb3
      have hls3 := ownsRow_below (hls2.alloc _) hb3
      have hz3 := hb3.size
      have x0 : w3.cell? ⟨w2.heap.size, 0, none⟩ = some (.int .i64 0) := (hb3.cell (by simp)).trans (by simp)
      have x1 : w3.cell? ⟨w2.heap.size, 1, none⟩ = some (.string ⟨#[]⟩) := (hb3.cell (by simp)).trans (by simp)
      have hlg3 : lg < w3.heap.size := Nat.lt_of_lt_of_le hlg2 (Nat.le_trans (by simp) hz3)
      have hrow : w3.heap[w2.heap.size]? = some (.cells #[.int .i64 0, .string ⟨#[]⟩] 58 (0, 0)) := (hb3.block _ (by simp)).trans (heap_alloc_new _ _)
      have y0 := frozen_of_row _ _ 0 _ _ hrow
      have y1 := frozen_of_row _ _ 1 _ _ hrow
      clear d0 d1 hrow
      cases hw : wordF db.data.toList with
      | none =>
        rw [hw] at HE
        have HN : Hid _ := HS.out.bad HL.out.lt hsk.out HE
        clear HE
        simp only [Option.isSome_none]
        go_wp2
        exact bodyPost_ret (v := .tuple #[.slice (some ⟨w3.heap.size, 0, none⟩) 0 0, .int .i64 2, .int .i64 ((k : Int) + 1)]) (by simp [results, Tryd.results10, go_sem]) rfl (by have := scrAns_bad HN.out hbw3; simpa using this)
      | some d =>
        rw [hw] at HE
        simp only [Option.isSome_some, Option.map_some] at HE ⊢
        unfold strV optL
        simp only [Option.getD_some]
        have hbw4 : Below w.heap.size w ((w3.setCell ⟨w2.heap.size, 0, none⟩ (.int .i64 1)).setCell ⟨w2.heap.size, 1, none⟩ (.string ⟨d.toArray⟩)) := (hbw3.setCell (by exact hbw.size) _).setCell (by exact hbw.size) _
        have hgw : g ≠ w2.heap.size := by omega
        have hblk : ∀ b, b ≠ w2.heap.size → ((w3.setCell ⟨w2.heap.size, 0, none⟩ (.int .i64 1)).setCell ⟨w2.heap.size, 1, none⟩ (.string ⟨d.toArray⟩)).heap[b]? = w3.heap[b]? := fun b hbb => by rw [heap_setCell_other _ _ _ _ (by exact hbb), heap_setCell_other _ _ _ _ (by exact hbb)]
        have hown4 := ownsRow_block (w' := (w3.setCell ⟨w2.heap.size, 0, none⟩ (.int .i64 1)).setCell ⟨w2.heap.size, 1, none⟩ (.string ⟨d.toArray⟩)) hown3 (hblk g hgw)
        have hls4 := ownsRow_block (w' := (w3.setCell ⟨w2.heap.size, 0, none⟩ (.int .i64 1)).setCell ⟨w2.heap.size, 1, none⟩ (.string ⟨d.toArray⟩)) hls3 (hblk lg (by omega))
        have hsz4 : ((w3.setCell ⟨w2.heap.size, 0, none⟩ (.int .i64 1)).setCell ⟨w2.heap.size, 1, none⟩ (.string ⟨d.toArray⟩)).heap.size = w3.heap.size := by simp [World.setCell]
        clear hblk
        by_cases hm : evs.length = 4000
        · have HN : Hid _ := HS.out.many HL.out.lt hsk.out HE hm
          clear HE
          have hm' : (evs.length : Int) = 4000 := by omega
          clear hm
          go_wp2
          exact bodyPost_ret (v := .tuple #[.slice (some ⟨w3.heap.size, 0, none⟩) 0 0, .int .i64 3, .int .i64 ((k : Int) + 1)]) (by simp [results, Tryd.results10, go_sem]) rfl (by have := scrAns_bad HN.out (hbw4); simpa using this)
        · have HN : Hid _ := HS.out.one HL.out.lt hsk.out HE hm
          clear HE
          have hm' : ¬(evs.length : Int) = 4000 := by omega
          clear hm
          go_wp2_with (refine wpList_append_pairW rfl (.tmp 76) (.tmp 78) 30 rfl ((w3.setCell ⟨w2.heap.size, 0, none⟩ (.int .i64 1)).setCell ⟨w2.heap.size, 1, none⟩ (.string ⟨d.toArray⟩)) (.int .i64 1) (.string ⟨d.toArray⟩) 58 rfl _ (by simp [World.setCell]) w.heap.size i0 _ 24 Tryd.underlying30 hi hz0 hz1 hz2 rfl g cap evs.length (evCells evs) rfl hown4 rfl rfl rfl (by omega) (by omega) hbw4.size ?_; intro g' cap' w4 own4 grow4 at4)
          go_roundw
          case rel => exact ⟨k + 1, g', cap', evs ++ [(1, d)], by omega, by go_num, by simp, HN, by unfold Evs; rw [evCells_app]; simpa [evCells, strV] using own4, by rcases at4 with rfl | rfl <;> (try simp [hsz4]) <;> omega, ownsRow_block hls4 (grow4.block lg (by rw [hsz4]; exact hlg3) (by simp; omega)), (hbw4).grown grow4 (hbw4).size (by intro q hq; cases hq; exact hgB)⟩
          case measure => simp [intOf]; omega
end Go.Proofs.YtipndbhedaknnaaDoor
