import Derived.Test.YtgbdlgogccgciaaGreatDoorPgTPgY
import Derived.WalkMore
namespace Go.Proofs.YtgbdlgogccgciaaGreatDoor
open Go.RowKit
attribute [local go_sem ↓] Go.wp_at_zero Go.wp_at_succ

/- READING THE TOKENS, THE CODE's SIDE. -/
theorem tokF_plain {s : List UInt8} {i : Nat} (h1 : atL s i ≠ 92) (h2 : atL s i ≠ 123) (h3 : atL s i ≠ 91) (c : Int) : tokF s i ≠ .inl c := by
  intro h
  unfold tokF at h
  rw [if_neg h2, if_neg h3, if_neg h1] at h
  repeat' split at h
  all_goals cases h
structure RtI (w : World) (s : List UInt8) (wr : World) (lv : Value) (x : Nat) (l : List Tok) (svs : List Value) : Prop where
  bel : Below w.heap.size w wr
  tk : TkP w.heap.size wr lv l svs
  e : lexF s x l = lexF s 0 []
  le : l.length ≤ x
theorem RtI.next {w wr W3 w' : World} {s : List UInt8} {lv sx : Value} {x j L g' cap' : Nat} {l : List Tok} {svs : List Value} {tk : Tok} (h : RtI w s wr lv x l svs) (hk : ∀ b, b < wr.heap.size → W3.heap[b]? = wr.heap[b]?) (hb3 : Below w.heap.size w W3) (hx : x < s.length) (ht : tokF s x = .inr (tk, j))
    (h0 : tk.kind = 0 → RngO wr.heap.size W3 sx (rngF tk.set 256)) (h1 : tk.kind ≠ 0 → sx = nilS) (hL : l.length = L)
    (ho : w'.ownsRow w.heap.size 105 5 (.slice (some ⟨g', 0, none⟩) (L + 1) cap') (L + 1) (tkL l svs ++ tk5i tk sx)) (hg : W3.grownBy w' lv.ownBlock) (hat : lv.ownBlock = some g' ∨ W3.heap.size ≤ g') :
    RtI w s w' (.slice (some ⟨g', 0, none⟩) (L + 1) cap') j (l ++ [tk]) (svs ++ [sx]) := by
  obtain ⟨hj, hk7, _⟩ := tokF_next ht
  have hle := h.le
  refine ⟨hb3.grown hg hb3.size (fun b hb => (h.tk.vlt hb).1), (h.tk.keep hk).push hk7 (fun hz => ownsRow_mono (h0 hz) h.bel.size) h1 (fun b hb => ?_) hL ho hg hat, by rw [← h.e, lexF_one hx ht], by rw [List.length_append]; show l.length + 1 ≤ j; omega⟩
  by_cases hz : tk.kind = 0
  · have hbl := (ownsRow_blk (h0 hz) hb).1
    exact ⟨fun hm => by have := (h.tk.lt hm).2; omega, fun hv => by have := (h.tk.vlt hv).2; omega⟩
  · rw [h1 hz] at hb; cases hb
theorem set5_row {W : World} {q : Nat} {a b c d e : Value} {t : TypeId} {z0 z1 z2 z3 z4 : Value} (h : W.heap[q]? = some (.cells #[z0, z1, z2, z3, z4] t (0, 0))) :
    (((((W.setCell ⟨q, 0, none⟩ a).setCell ⟨q, 1, none⟩ b).setCell ⟨q, 2, none⟩ c).setCell ⟨q, 3, none⟩ d).setCell ⟨q, 4, none⟩ e).heap[q]? = some (.cells #[a, b, c, d, e] t (0, 0)) := by
  have h0 := heap_setCell_same _ _ 0 _ _ a h
  have h1 := heap_setCell_same _ _ 1 _ _ b h0
  have h2 := heap_setCell_same _ _ 2 _ _ c h1
  have h3 := heap_setCell_same _ _ 3 _ _ d h2
  have h4 := heap_setCell_same _ _ 4 _ _ e h3
  exact h4
set_option maxRecDepth 100000 in
set_option maxHeartbeats 8000000 in
theorem readTokens_ok (hcm : CmC) (t : ByteArray) (m : Int) (w : World) (hs : t.size ≤ 2000) (hm : w.cell? ⟨1, 0, none⟩ = some (.int .i64 m)) (hm1 : 1 < w.heap.size) :
    Calls Tryz.prog 30 #[.string t] w (RtA w t.data.toList) := by
  obtain ⟨iT, hjT, hyT0, hyT1, hyT2⟩ := info_parts infoTkiP
  have hlen : t.data.toList.length = t.size := Array.length_toList
  have HI0 : Hid (RtI w t.data.toList (w.alloc (.cells #[] 105)) (.slice (some ⟨w.heap.size, 0, none⟩) 0 0) 0 [] []) :=
    ⟨(Below.refl _ _).alloc (Nat.le_refl _) _, ⟨rfl, ownsRow_newZ w _ 5 _ _ (Nat.le_refl _) rfl, fun k h => absurd h (by simp), fun k h => absurd h (by simp), fun k h => absurd h (by simp), List.nodup_nil, fun _ _ h => (by cases h), ⟨_, _, _, rfl⟩⟩, rfl, Nat.le_refl _⟩
  have Hlen := hid hlen
  clear hlen
  go_enter Tryz.func30, Tryz.ntmps30
  go_wp2
  go_step3
  go_wp2
  go_step3
  go_wp2
  go_loopw [4, 5] (fun lv av wr => ∃ (x : Nat) (l : List Tok) (svs : List Value), av = .int .i64 (x : Int) ∧ Hid (RtI w t.data.toList wr lv x l svs)) (fun _ av _ => t.size - (intOf av).toNat)
  case atStart => exact ⟨0, [], [], rfl, HI0⟩
  case round =>
    clear HI0
    obtain ⟨x, l, svs, rfl, HI⟩ := hrel
    obtain ⟨lg, ln, lc, rfl⟩ := HI.out.tk.sm
    by_cases hlt : x < t.size
    case neg =>
      have hxI : ¬(x : Int) < (t.size : Int) := by omega
      have HE : Hid (RtA w t.data.toList (.returned (.tuple #[.slice (some ⟨lg, 0, none⟩) ln lc, .nilIface])) wr) := by
        refine ⟨HI.out.bel, fun l' c i h => ?_⟩
        have h9 := HI.out.e
        rw [lexF_end (by have := Hlen.out; omega), h] at h9
        cases h9
        have hll := (lexF_ok t.data.toList t.data.toList.length 0 [] (by omega) (fun _ h => by cases h) (Nat.le_refl _) (Nat.zero_le _)).2.1
        rw [h] at hll
        obtain ⟨G, c, hv, hA, hB⟩ := HI.out.tk.to (by have := Hlen.out; simp at hll; omega)
        refine ⟨fun h => absurd rfl h, fun _ => ⟨G, c, _, by rw [hv], hA, ?_⟩⟩
        rw [hB]
        exact HI.out.tk.nd
      go_wp2
      try rw [Exit.noGoto_ret]
      exact bodyPost_ret (v := .tuple #[.slice (some ⟨lg, 0, none⟩) ln lc, .nilIface]) (by simp [results, Tryz.results30, go_sem]) rfl HE.out
    have hxI : (x : Int) < (t.size : Int) := by omega
    have hxt : ((x : Int)).toNat = x := by omega
    have hx2 : x ≤ 2000 := by omega
    have ab := atL_byte hlt
    have hbd := atL_bd t.data.toList x
    rw [ab] at hbd
    generalize hBB : (t[x].toNat : Int) = BB at *
    obtain ⟨L, HL⟩ : ∃ L, Hid (l.length = L) := ⟨_, rfl⟩
    have hln : ln = L := by
      rw [← HL.out]
      rcases HI.out.tk.own.2 with ⟨e, _⟩ | ⟨g, cap, _, e, _⟩
      · cases e
      · cases e; rfl
    subst hln
    have hL2 : ln ≤ 2000 := by have := HI.out.le; have := HL.out; omega
    have HOWN := HI.out.tk.own
    rw [HL.out] at HOWN
    obtain ⟨W1, hW1⟩ : ∃ W1, W1 = wr.alloc (.cells #[.int .i64 0, .int .i64 0, .slice none 0 0, .int .i64 0, .int .i64 0] 105) := ⟨_, rfl⟩
    have hb1 : Below wr.heap.size wr W1 := by rw [hW1]; exact (Below.refl _ _).alloc (Nat.le_refl _) _
    have hq1 : W1.heap[wr.heap.size]? = some (.cells #[.int .i64 0, .int .i64 0, .slice none 0 0, .int .i64 0, .int .i64 0] 105 (0, 0)) := by rw [hW1]; exact heap_alloc_new _ _
    have hs1 : W1.heap.size = wr.heap.size + 1 := by rw [hW1]; simp
    have hbw1 := below_step HI.out.bel HI.out.bel.size hb1
    have hm1' : W1.cell? ⟨1, 0, none⟩ = some (.int .i64 m) := by rw [World.cell?_of_block (w := w) (hbw1.block 1 hm1)]; exact hm
    have hm1l : 1 < W1.heap.size := Nat.lt_of_lt_of_le hm1 hbw1.size
    have hxl : x < t.data.toList.length := by have := Hlen.out; omega
    have HXL := hid hxl
    have HOW := hid HOWN
    have Hhm := hid hm
    clear HOWN hm hxl
    by_cases c92 : BB = 92
    · have hC := readEscape_ok t x W1 hlt hs (by rw [ab]; exact c92)
      have cb : (BB == 92) = true := by simpa using c92
      cases htk : tokF t.data.toList x with
      | inl cd =>
        rw [htk] at hC
        have hC2 : Calls Tryz.prog 47 #[.string t, .int .i64 (x : Int)] W1 fun e w' => e = .returned (.tuple #[.agg #[.int .i64 0, .int .i64 0, .slice none 0 0, .int .i64 0, .int .i64 0], .int .i64 0, .iface 51 (.agg #[.int .i64 cd, .int .i64 (x : Int)])]) ∧ Below W1.heap.size W1 w' := hC.mono fun e w' h => ⟨h.2, h.1⟩
        have HE : Hid (∀ W, Below w.heap.size w W → RtA w t.data.toList (.returned (.tuple #[.slice none 0 0, .iface 51 (.agg #[.int .i64 cd, .int .i64 (x : Int)])])) W) := fun W hW => ⟨hW, fun l' c i h => by
          have h9 := HI.out.e
          rw [lexF_bad HXL.out htk, h] at h9
          cases h9
          exact ⟨fun _ => rfl, fun h0 => absurd h0 (by rcases tokF_code htk with e | e | e <;> omega)⟩⟩
        clear hC htk
        go_wp2_with fail
        try rw [← hW1]
        clear hW1
        refine hC2.mono ?_
        rintro e w2 ⟨rfl, hb2⟩
        have hq2 := row_below hq1 hb2
        have HBL := hid (below_step hbw1 hbw1.size hb2)
        have hqw := HI.out.bel.size
        obtain ⟨r0, r1, r2, r3, r4⟩ := row_five hq2
        have fz : ∀ o, w2.frozen? ⟨wr.heap.size, o, none⟩ = false := fun o => frozen_of_row _ _ _ _ _ hq2
        have g0 := fz 0
        have g1 := fz 1
        have g2 := fz 2
        have g3 := fz 3
        have g4 := fz 4
        clear fz hC2 hq2 hq1 hb2 hb1 hm1'
        go_wp2
        try rw [Exit.noGoto_ret]
        exact bodyPost_ret (v := .tuple #[.slice none 0 0, .iface 51 (.agg #[.int .i64 cd, .int .i64 (x : Int)])]) (by simp [results, Tryz.results30, go_sem]) rfl (HE.out _ (((((HBL.out.setCell hqw _).setCell hqw _).setCell hqw _).setCell hqw _).setCell hqw _))
      | inr xj =>
        obtain ⟨tk, j⟩ := xj
        rw [htk] at hC
        have hC2 : Calls Tryz.prog 47 #[.string t, .int .i64 (x : Int)] W1 fun e w' => ∃ ao nn cap, e = .returned (.tuple #[.agg #[.int .i64 (tk.kind : Int), .int .i64 (tk.pos : Int), .slice ao nn cap, .int .i64 tk.mn, .int .i64 tk.mx], .int .i64 (j : Int), .nilIface]) ∧ (tk.kind = 0 → RngO W1.heap.size w' (.slice ao nn cap) (rngF tk.set 256)) ∧ (tk.kind ≠ 0 → (Value.slice ao nn cap) = nilS) ∧ Below W1.heap.size W1 w' := hC.mono fun e w' h => by
          obtain ⟨hb, v, he, ao, nn, cap, rfl, h0, h1⟩ := h
          exact ⟨ao, nn, cap, he, h0, h1, hb⟩
        have hjx := (tokF_next htk).1
        have HTK := hid htk
        generalize hkk : (tk.kind : Int) = KK at *
        generalize hpp : (tk.pos : Int) = PP at *
        generalize hnn : tk.mn = MN at *
        generalize hxx : tk.mx = MX at *
        have Hkk := hid hkk
        have Hpp := hid hpp
        have Hnn := hid hnn
        have Hxx := hid hxx
        clear hC htk hkk hpp hnn hxx
        go_wp2_with fail
        try rw [← hW1]
        clear hW1
        refine hC2.mono ?_
        rintro e w2 ⟨ao, nn, cap, rfl, h0, h1, hb2⟩
        have hq2 := row_below hq1 hb2
        have hqw := HI.out.bel.size
        have hbl2 := below_step hbw1 hbw1.size hb2
        obtain ⟨W3, hW3⟩ : ∃ W3, W3 = ((((w2.setCell ⟨wr.heap.size, 0, none⟩ (.int .i64 KK)).setCell ⟨wr.heap.size, 1, none⟩ (.int .i64 PP)).setCell ⟨wr.heap.size, 2, none⟩ (.slice ao nn cap)).setCell ⟨wr.heap.size, 3, none⟩ (.int .i64 MN)).setCell ⟨wr.heap.size, 4, none⟩ (.int .i64 MX) := ⟨_, rfl⟩
        have HBL : Hid (Below w.heap.size w W3) := by rw [hW3]; exact ((((hbl2.setCell hqw _).setCell hqw _).setCell hqw _).setCell hqw _).setCell hqw _
        have HKB : Hid (∀ b, b < wr.heap.size → W3.heap[b]? = wr.heap[b]?) := fun b hb => by
          have hne : b ≠ wr.heap.size := by omega
          rw [hW3]
          repeat rw [Below.heap_setCell _ _ _ _ hne]
          rw [hb2.block b (by omega), hb1.block b hb]
        have H0 : Hid (tk.kind = 0 → RngO wr.heap.size W3 (.slice ao nn cap) (rngF tk.set 256)) := fun hz => by
          refine ownsRow_keep (ownsRow_mono (h0 hz) (by omega)) fun b hb => ?_
          have := (ownsRow_blk (h0 hz) hb).1
          have hne : b ≠ wr.heap.size := by omega
          rw [hW3]
          repeat rw [Below.heap_setCell _ _ _ _ hne]
        have H1 := hid h1
        have hq3 : W3.heap[wr.heap.size]? = some (.cells #[.int .i64 KK, .int .i64 PP, .slice ao nn cap, .int .i64 MN, .int .i64 MX] 105 (0, 0)) := by
          rw [hW3]
          exact set5_row hq2
        have hO3 := hid (ownsRow_keep HOW.out fun b hb => HKB.out b (ownsRow_blk HOW.out hb).2)
        have hsz3 : w.heap.size ≤ W3.heap.size := HBL.out.size
        obtain ⟨r0, r1, r2, r3, r4⟩ := row_five hq2
        have fz : ∀ o, w2.frozen? ⟨wr.heap.size, o, none⟩ = false := fun o => frozen_of_row _ _ _ _ _ hq2
        have g0 := fz 0
        have g1 := fz 1
        have g2 := fz 2
        have g3 := fz 3
        have g4 := fz 4
        clear fz hC2 h0 h1 hq1 hb2 hb1 hm1' hbl2
        go_upto_region 16 with fail
        rw [← hW3]
        clear hW3 r0 r1 r2 r3 r4 g0 g1 g2 g3 g4 hq2
        obtain ⟨r0, r1, r2, r3, r4⟩ := row_five hq3
        go_wp2_with (at_builtin; refine wpList_append_szW rfl (.tmp 57) (.tmp 59) 70 rfl W3 #[.int .i64 KK, .int .i64 PP, .slice ao nn cap, .int .i64 MN, .int .i64 MX] 105 rfl W3.heap.size rfl w.heap.size iT _ 5 56 Tryz.underlying70 hjT hyT0 hyT1 hyT2 rfl (by omega) _ ln _ rfl hO3.out rfl rfl (by simp [Value.oneCell']) (by omega) (by omega) hsz3 ?_; intro g9 cap9 w9 own9 grow9 at9)
        have HN : Hid (RtI w t.data.toList w9 (.slice (some ⟨g9, 0, none⟩) (ln + 1) cap9) j (l ++ [tk]) (svs ++ [.slice ao nn cap])) := HI.out.next HKB.out HBL.out HXL.out HTK.out H0.out H1.out HL.out (by unfold tk5i; rw [Hkk.out, Hpp.out, Hnn.out, Hxx.out]; exact own9) grow9 at9
        clear own9 grow9 at9
        go_wp2
        go_roundw
        case rel => exact ⟨j, _, _, rfl, HN⟩
        case measure => simp [intOf]; omega
    by_cases c123 : BB = 123
    · have hC := readInterval_ok t x m W1 hlt hs (by rw [ab]; exact c123) hm1' hm1l
      have cb : (BB == 123) = true := by simpa using c123
      have cn1 : (BB == 92) = false := by simp; omega
      cases htk : tokF t.data.toList x with
      | inl cd =>
        rw [htk] at hC
        have hC2 : Calls Tryz.prog 48 #[.string t, .int .i64 (x : Int)] W1 fun e w' => e = .returned (.tuple #[.agg #[.int .i64 0, .int .i64 0, .slice none 0 0, .int .i64 0, .int .i64 0], .int .i64 0, .iface 51 (.agg #[.int .i64 cd, .int .i64 (x : Int)])]) ∧ Below W1.heap.size W1 w' := hC.mono fun e w' h => ⟨h.2, h.1⟩
        have HE : Hid (∀ W, Below w.heap.size w W → RtA w t.data.toList (.returned (.tuple #[.slice none 0 0, .iface 51 (.agg #[.int .i64 cd, .int .i64 (x : Int)])])) W) := fun W hW => ⟨hW, fun l' c i h => by
          have h9 := HI.out.e
          rw [lexF_bad HXL.out htk, h] at h9
          cases h9
          exact ⟨fun _ => rfl, fun h0 => absurd h0 (by rcases tokF_code htk with e | e | e <;> omega)⟩⟩
        clear hC htk
        go_wp2_with fail
        try rw [← hW1]
        clear hW1
        refine hC2.mono ?_
        rintro e w2 ⟨rfl, hb2⟩
        have hq2 := row_below hq1 hb2
        have HBL := hid (below_step hbw1 hbw1.size hb2)
        have hqw := HI.out.bel.size
        obtain ⟨r0, r1, r2, r3, r4⟩ := row_five hq2
        have fz : ∀ o, w2.frozen? ⟨wr.heap.size, o, none⟩ = false := fun o => frozen_of_row _ _ _ _ _ hq2
        have g0 := fz 0
        have g1 := fz 1
        have g2 := fz 2
        have g3 := fz 3
        have g4 := fz 4
        clear fz hC2 hq2 hq1 hb2 hb1 hm1'
        go_wp2
        try rw [Exit.noGoto_ret]
        exact bodyPost_ret (v := .tuple #[.slice none 0 0, .iface 51 (.agg #[.int .i64 cd, .int .i64 (x : Int)])]) (by simp [results, Tryz.results30, go_sem]) rfl (HE.out _ (((((HBL.out.setCell hqw _).setCell hqw _).setCell hqw _).setCell hqw _).setCell hqw _))
      | inr xj =>
        obtain ⟨tk, j⟩ := xj
        rw [htk] at hC
        have hC2 : Calls Tryz.prog 48 #[.string t, .int .i64 (x : Int)] W1 fun e w' => ∃ ao nn cap, e = .returned (.tuple #[.agg #[.int .i64 (tk.kind : Int), .int .i64 (tk.pos : Int), .slice ao nn cap, .int .i64 tk.mn, .int .i64 tk.mx], .int .i64 (j : Int), .nilIface]) ∧ (tk.kind = 0 → RngO W1.heap.size w' (.slice ao nn cap) (rngF tk.set 256)) ∧ (tk.kind ≠ 0 → (Value.slice ao nn cap) = nilS) ∧ Below W1.heap.size W1 w' := hC.mono fun e w' h => by
          obtain ⟨hb, v, he, ao, nn, cap, rfl, h0, h1⟩ := h
          exact ⟨ao, nn, cap, he, h0, h1, hb⟩
        have hjx := (tokF_next htk).1
        have HTK := hid htk
        generalize hkk : (tk.kind : Int) = KK at *
        generalize hpp : (tk.pos : Int) = PP at *
        generalize hnn : tk.mn = MN at *
        generalize hxx : tk.mx = MX at *
        have Hkk := hid hkk
        have Hpp := hid hpp
        have Hnn := hid hnn
        have Hxx := hid hxx
        clear hC htk hkk hpp hnn hxx
        go_wp2_with fail
        try rw [← hW1]
        clear hW1
        refine hC2.mono ?_
        rintro e w2 ⟨ao, nn, cap, rfl, h0, h1, hb2⟩
        have hq2 := row_below hq1 hb2
        have hqw := HI.out.bel.size
        have hbl2 := below_step hbw1 hbw1.size hb2
        obtain ⟨W3, hW3⟩ : ∃ W3, W3 = ((((w2.setCell ⟨wr.heap.size, 0, none⟩ (.int .i64 KK)).setCell ⟨wr.heap.size, 1, none⟩ (.int .i64 PP)).setCell ⟨wr.heap.size, 2, none⟩ (.slice ao nn cap)).setCell ⟨wr.heap.size, 3, none⟩ (.int .i64 MN)).setCell ⟨wr.heap.size, 4, none⟩ (.int .i64 MX) := ⟨_, rfl⟩
        have HBL : Hid (Below w.heap.size w W3) := by rw [hW3]; exact ((((hbl2.setCell hqw _).setCell hqw _).setCell hqw _).setCell hqw _).setCell hqw _
        have HKB : Hid (∀ b, b < wr.heap.size → W3.heap[b]? = wr.heap[b]?) := fun b hb => by
          have hne : b ≠ wr.heap.size := by omega
          rw [hW3]
          repeat rw [Below.heap_setCell _ _ _ _ hne]
          rw [hb2.block b (by omega), hb1.block b hb]
        have H0 : Hid (tk.kind = 0 → RngO wr.heap.size W3 (.slice ao nn cap) (rngF tk.set 256)) := fun hz => by
          refine ownsRow_keep (ownsRow_mono (h0 hz) (by omega)) fun b hb => ?_
          have := (ownsRow_blk (h0 hz) hb).1
          have hne : b ≠ wr.heap.size := by omega
          rw [hW3]
          repeat rw [Below.heap_setCell _ _ _ _ hne]
        have H1 := hid h1
        have hq3 : W3.heap[wr.heap.size]? = some (.cells #[.int .i64 KK, .int .i64 PP, .slice ao nn cap, .int .i64 MN, .int .i64 MX] 105 (0, 0)) := by
          rw [hW3]
          exact set5_row hq2
        have hO3 := hid (ownsRow_keep HOW.out fun b hb => HKB.out b (ownsRow_blk HOW.out hb).2)
        have hsz3 : w.heap.size ≤ W3.heap.size := HBL.out.size
        obtain ⟨r0, r1, r2, r3, r4⟩ := row_five hq2
        have fz : ∀ o, w2.frozen? ⟨wr.heap.size, o, none⟩ = false := fun o => frozen_of_row _ _ _ _ _ hq2
        have g0 := fz 0
        have g1 := fz 1
        have g2 := fz 2
        have g3 := fz 3
        have g4 := fz 4
        clear fz hC2 h0 h1 hq1 hb2 hb1 hm1' hbl2
        go_upto_region 16 with fail
        rw [← hW3]
        clear hW3 r0 r1 r2 r3 r4 g0 g1 g2 g3 g4 hq2
        obtain ⟨r0, r1, r2, r3, r4⟩ := row_five hq3
        go_wp2_with (at_builtin; refine wpList_append_szW rfl (.tmp 57) (.tmp 59) 70 rfl W3 #[.int .i64 KK, .int .i64 PP, .slice ao nn cap, .int .i64 MN, .int .i64 MX] 105 rfl W3.heap.size rfl w.heap.size iT _ 5 56 Tryz.underlying70 hjT hyT0 hyT1 hyT2 rfl (by omega) _ ln _ rfl hO3.out rfl rfl (by simp [Value.oneCell']) (by omega) (by omega) hsz3 ?_; intro g9 cap9 w9 own9 grow9 at9)
        have HN : Hid (RtI w t.data.toList w9 (.slice (some ⟨g9, 0, none⟩) (ln + 1) cap9) j (l ++ [tk]) (svs ++ [.slice ao nn cap])) := HI.out.next HKB.out HBL.out HXL.out HTK.out H0.out H1.out HL.out (by unfold tk5i; rw [Hkk.out, Hpp.out, Hnn.out, Hxx.out]; exact own9) grow9 at9
        clear own9 grow9 at9
        go_wp2
        go_roundw
        case rel => exact ⟨j, _, _, rfl, HN⟩
        case measure => simp [intOf]; omega
    by_cases c91 : BB = 91
    · have hC := readBracket_ok hcm t x m W1 hlt hs (by rw [ab]; exact c91) hm1' hm1l
      have cb : (BB == 91) = true := by simpa using c91
      have cn1 : (BB == 92) = false := by simp; omega
      have cn2 : (BB == 123) = false := by simp; omega
      cases htk : tokF t.data.toList x with
      | inl cd =>
        rw [htk] at hC
        have hC2 : Calls Tryz.prog 49 #[.string t, .int .i64 (x : Int)] W1 fun e w' => e = .returned (.tuple #[.agg #[.int .i64 0, .int .i64 0, .slice none 0 0, .int .i64 0, .int .i64 0], .int .i64 0, .iface 51 (.agg #[.int .i64 cd, .int .i64 (x : Int)])]) ∧ Below W1.heap.size W1 w' := hC.mono fun e w' h => ⟨h.2, h.1⟩
        have HE : Hid (∀ W, Below w.heap.size w W → RtA w t.data.toList (.returned (.tuple #[.slice none 0 0, .iface 51 (.agg #[.int .i64 cd, .int .i64 (x : Int)])])) W) := fun W hW => ⟨hW, fun l' c i h => by
          have h9 := HI.out.e
          rw [lexF_bad HXL.out htk, h] at h9
          cases h9
          exact ⟨fun _ => rfl, fun h0 => absurd h0 (by rcases tokF_code htk with e | e | e <;> omega)⟩⟩
        clear hC htk
        go_wp2_with fail
        try rw [← hW1]
        clear hW1
        refine hC2.mono ?_
        rintro e w2 ⟨rfl, hb2⟩
        have hq2 := row_below hq1 hb2
        have HBL := hid (below_step hbw1 hbw1.size hb2)
        have hqw := HI.out.bel.size
        obtain ⟨r0, r1, r2, r3, r4⟩ := row_five hq2
        have fz : ∀ o, w2.frozen? ⟨wr.heap.size, o, none⟩ = false := fun o => frozen_of_row _ _ _ _ _ hq2
        have g0 := fz 0
        have g1 := fz 1
        have g2 := fz 2
        have g3 := fz 3
        have g4 := fz 4
        clear fz hC2 hq2 hq1 hb2 hb1 hm1'
        go_wp2
        try rw [Exit.noGoto_ret]
        exact bodyPost_ret (v := .tuple #[.slice none 0 0, .iface 51 (.agg #[.int .i64 cd, .int .i64 (x : Int)])]) (by simp [results, Tryz.results30, go_sem]) rfl (HE.out _ (((((HBL.out.setCell hqw _).setCell hqw _).setCell hqw _).setCell hqw _).setCell hqw _))
      | inr xj =>
        obtain ⟨tk, j⟩ := xj
        rw [htk] at hC
        have hC2 : Calls Tryz.prog 49 #[.string t, .int .i64 (x : Int)] W1 fun e w' => ∃ ao nn cap, e = .returned (.tuple #[.agg #[.int .i64 (tk.kind : Int), .int .i64 (tk.pos : Int), .slice ao nn cap, .int .i64 tk.mn, .int .i64 tk.mx], .int .i64 (j : Int), .nilIface]) ∧ (tk.kind = 0 → RngO W1.heap.size w' (.slice ao nn cap) (rngF tk.set 256)) ∧ (tk.kind ≠ 0 → (Value.slice ao nn cap) = nilS) ∧ Below W1.heap.size W1 w' := hC.mono fun e w' h => by
          obtain ⟨hb, v, he, ao, nn, cap, rfl, h0, h1⟩ := h
          exact ⟨ao, nn, cap, he, h0, h1, hb⟩
        have hjx := (tokF_next htk).1
        have HTK := hid htk
        generalize hkk : (tk.kind : Int) = KK at *
        generalize hpp : (tk.pos : Int) = PP at *
        generalize hnn : tk.mn = MN at *
        generalize hxx : tk.mx = MX at *
        have Hkk := hid hkk
        have Hpp := hid hpp
        have Hnn := hid hnn
        have Hxx := hid hxx
        clear hC htk hkk hpp hnn hxx
        go_wp2_with fail
        try rw [← hW1]
        clear hW1
        refine hC2.mono ?_
        rintro e w2 ⟨ao, nn, cap, rfl, h0, h1, hb2⟩
        have hq2 := row_below hq1 hb2
        have hqw := HI.out.bel.size
        have hbl2 := below_step hbw1 hbw1.size hb2
        obtain ⟨W3, hW3⟩ : ∃ W3, W3 = ((((w2.setCell ⟨wr.heap.size, 0, none⟩ (.int .i64 KK)).setCell ⟨wr.heap.size, 1, none⟩ (.int .i64 PP)).setCell ⟨wr.heap.size, 2, none⟩ (.slice ao nn cap)).setCell ⟨wr.heap.size, 3, none⟩ (.int .i64 MN)).setCell ⟨wr.heap.size, 4, none⟩ (.int .i64 MX) := ⟨_, rfl⟩
        have HBL : Hid (Below w.heap.size w W3) := by rw [hW3]; exact ((((hbl2.setCell hqw _).setCell hqw _).setCell hqw _).setCell hqw _).setCell hqw _
        have HKB : Hid (∀ b, b < wr.heap.size → W3.heap[b]? = wr.heap[b]?) := fun b hb => by
          have hne : b ≠ wr.heap.size := by omega
          rw [hW3]
          repeat rw [Below.heap_setCell _ _ _ _ hne]
          rw [hb2.block b (by omega), hb1.block b hb]
        have H0 : Hid (tk.kind = 0 → RngO wr.heap.size W3 (.slice ao nn cap) (rngF tk.set 256)) := fun hz => by
          refine ownsRow_keep (ownsRow_mono (h0 hz) (by omega)) fun b hb => ?_
          have := (ownsRow_blk (h0 hz) hb).1
          have hne : b ≠ wr.heap.size := by omega
          rw [hW3]
          repeat rw [Below.heap_setCell _ _ _ _ hne]
        have H1 := hid h1
        have hq3 : W3.heap[wr.heap.size]? = some (.cells #[.int .i64 KK, .int .i64 PP, .slice ao nn cap, .int .i64 MN, .int .i64 MX] 105 (0, 0)) := by
          rw [hW3]
          exact set5_row hq2
        have hO3 := hid (ownsRow_keep HOW.out fun b hb => HKB.out b (ownsRow_blk HOW.out hb).2)
        have hsz3 : w.heap.size ≤ W3.heap.size := HBL.out.size
        obtain ⟨r0, r1, r2, r3, r4⟩ := row_five hq2
        have fz : ∀ o, w2.frozen? ⟨wr.heap.size, o, none⟩ = false := fun o => frozen_of_row _ _ _ _ _ hq2
        have g0 := fz 0
        have g1 := fz 1
        have g2 := fz 2
        have g3 := fz 3
        have g4 := fz 4
        clear fz hC2 h0 h1 hq1 hb2 hb1 hm1' hbl2
        go_upto_region 16 with fail
        rw [← hW3]
        clear hW3 r0 r1 r2 r3 r4 g0 g1 g2 g3 g4 hq2
        obtain ⟨r0, r1, r2, r3, r4⟩ := row_five hq3
        go_wp2_with (at_builtin; refine wpList_append_szW rfl (.tmp 57) (.tmp 59) 70 rfl W3 #[.int .i64 KK, .int .i64 PP, .slice ao nn cap, .int .i64 MN, .int .i64 MX] 105 rfl W3.heap.size rfl w.heap.size iT _ 5 56 Tryz.underlying70 hjT hyT0 hyT1 hyT2 rfl (by omega) _ ln _ rfl hO3.out rfl rfl (by simp [Value.oneCell']) (by omega) (by omega) hsz3 ?_; intro g9 cap9 w9 own9 grow9 at9)
        have HN : Hid (RtI w t.data.toList w9 (.slice (some ⟨g9, 0, none⟩) (ln + 1) cap9) j (l ++ [tk]) (svs ++ [.slice ao nn cap])) := HI.out.next HKB.out HBL.out HXL.out HTK.out H0.out H1.out HL.out (by unfold tk5i; rw [Hkk.out, Hpp.out, Hnn.out, Hxx.out]; exact own9) grow9 at9
        clear own9 grow9 at9
        go_wp2
        go_roundw
        case rel => exact ⟨j, _, _, rfl, HN⟩
        case measure => simp [intOf]; omega
    have cn1 : (BB == 92) = false := by simp; omega
    have cn2 : (BB == 123) = false := by simp; omega
    have cn3 : (BB == 91) = false := by simp; omega
    obtain ⟨tk, j, htk⟩ : ∃ tk j, tokF t.data.toList x = .inr (tk, j) := by
      cases h : tokF t.data.toList x with
      | inr p => exact ⟨p.1, p.2, rfl⟩
      | inl cd => exact absurd h (tokF_plain (by rw [ab]; exact c92) (by rw [ab]; exact c123) (by rw [ab]; exact c91) cd)
    have hj1 := tokF_next1 (by rw [ab]; exact c92) (by rw [ab]; exact c123) (by rw [ab]; exact c91) htk
    subst hj1
    have hC := oneByte_ok t.data.toList x (x + 1) tk BB W1 ab (by omega) c92 c123 c91 htk
    have hC2 : Calls Tryz.prog 50 #[.int .u8 BB, .int .i64 (x : Int)] W1 fun e w' => ∃ ao nn cap, e = .returned (.agg #[.int .i64 (tk.kind : Int), .int .i64 (tk.pos : Int), .slice ao nn cap, .int .i64 tk.mn, .int .i64 tk.mx]) ∧ (tk.kind = 0 → RngO W1.heap.size w' (.slice ao nn cap) (rngF tk.set 256)) ∧ (tk.kind ≠ 0 → (Value.slice ao nn cap) = nilS) ∧ Below W1.heap.size W1 w' := hC.mono fun e w' h => by
      obtain ⟨v, he, ⟨ao, nn, cap, rfl, h0, h1⟩, hb⟩ := h
      exact ⟨ao, nn, cap, he, h0, h1, hb⟩
    have HTK := hid htk
    generalize hkk : (tk.kind : Int) = KK at *
    generalize hpp : (tk.pos : Int) = PP at *
    generalize hnn : tk.mn = MN at *
    generalize hxx : tk.mx = MX at *
    have Hkk := hid hkk
    have Hpp := hid hpp
    have Hnn := hid hnn
    have Hxx := hid hxx
    clear hC htk hkk hpp hnn hxx c92 c123 c91
    go_wp2_with fail
    try rw [hBB]
    try rw [← hW1]
    clear hW1
    refine hC2.mono ?_
    rintro e w2 ⟨ao, nn, cap, rfl, h0, h1, hb2⟩
    have HBL := hid (below_step hbw1 hbw1.size hb2)
    have HKB : Hid (∀ b, b < wr.heap.size → w2.heap[b]? = wr.heap[b]?) := fun b hb => by rw [hb2.block b (by omega), hb1.block b hb]
    have H0 : Hid (tk.kind = 0 → RngO wr.heap.size w2 (.slice ao nn cap) (rngF tk.set 256)) := fun hz => ownsRow_mono (h0 hz) (by omega)
    have H1 := hid h1
    have hO3 := hid (ownsRow_keep HOW.out fun b hb => HKB.out b (ownsRow_blk HOW.out hb).2)
    have hsz3 : w.heap.size ≤ w2.heap.size := HBL.out.size
    clear hC2 h0 h1 hq1 hb2 hb1 hm1'
    go_wp2_with (at_builtin; refine wpList_append_szW rfl (.tmp 17) (.tmp 23) 70 rfl w2 #[.int .i64 KK, .int .i64 PP, .slice ao nn cap, .int .i64 MN, .int .i64 MX] 105 rfl w2.heap.size rfl w.heap.size iT _ 5 56 Tryz.underlying70 hjT hyT0 hyT1 hyT2 rfl (by omega) _ ln _ rfl hO3.out rfl rfl (by simp [Value.oneCell']) (by omega) (by omega) hsz3 ?_; intro g9 cap9 w9 own9 grow9 at9)
    have HN : Hid (RtI w t.data.toList w9 (.slice (some ⟨g9, 0, none⟩) (ln + 1) cap9) (x + 1) (l ++ [tk]) (svs ++ [.slice ao nn cap])) := HI.out.next HKB.out HBL.out HXL.out HTK.out H0.out H1.out HL.out (by unfold tk5i; rw [Hkk.out, Hpp.out, Hnn.out, Hxx.out]; exact own9) grow9 at9
    clear own9 grow9 at9
    go_wp2
    go_roundw
    case rel => exact ⟨x + 1, _, _, by go_num, HN⟩
    case measure => simp [intOf]; omega
end Go.Proofs.YtgbdlgogccgciaaGreatDoor

