import Derived.Test.YtgbdlgogccgciaaGreatDoorPgOPgP
namespace Go.Proofs.YtgbdlgogccgciaaGreatDoor
open Go.RowKit
attribute [local go_sem ↓] Go.wp_at_zero Go.wp_at_succ

/- THE WRITER: a factor. -/
theorem row_fiveE {w : World} {g : Nat} {a b c d e : Value} {t : TypeId} (h : w.heap[g]? = some (.cells #[a, b, c, d, e] t (0, 0))) : w.cell? ⟨g, 0, none⟩ = some a ∧ w.cell? ⟨g, 1, none⟩ = some b ∧ w.cell? ⟨g, 2, none⟩ = some c ∧ w.cell? ⟨g, 3, none⟩ = some d ∧ w.cell? ⟨g, 4, none⟩ = some e :=
  ⟨row_cells h 0, row_cells h 1, row_cells h 2, row_cells h 3, row_cells h 4⟩
theorem WrR.fin {B p G c : Nat} {l : List Tok} {sv : Nat → Value} {w W w9 : World} {v nv nv' : Value} {ns0 ns1 : List NodeD} {vs0 vs1 : List Value} {x' g' : Nat} {bl : List Nat} (hT : WtT B p G c l sv W x' g') (hK : WKp p v.ownBlock w W) (hO : OwnT w v nv) (hr : ∀ b, nv.ownBlock = some b → p < b)
    (hN : NdP B p w9 nv' (ns0 ++ ns1) (vs0 ++ vs1)) (hg : W.grownBy w9 nv.ownBlock) (ho : OwnT W nv nv') (hb : vs1.filterMap Value.ownBlock = bl) : WrR B p G c l sv w v ns0 vs0 x' g' ns1 bl (.returned nv') w9 :=
  ⟨nv', vs1, rfl, hN, hT.grown hg hr, hK.trans hO (.of_grown hg), hO.trans hK.size ho, hb⟩
/-- The next token. -/
theorem WtT.next {B p G c : Nat} {l : List Tok} {sv : Nat → Value} {W : World} {x g : Nat} (h : WtT B p G c l sv W x g) (hx : x < l.length) : WtT B p G c l sv (W.setCell ⟨p, 1, none⟩ (.int .i64 ((x : Int) + 1))) (x + 1) g :=
  h.to (WKp.cell (WKp.refl p none W) 1 _) (fun b e => by cases e) (by rw [heap_setCell_same _ _ _ _ _ _ h.st.box]; rfl) hx (Nat.le_trans h.gl (Nat.le_succ _))
/-- The next group. -/
theorem WtT.group {B p G c : Nat} {l : List Tok} {sv : Nat → Value} {W : World} {x g : Nat} (h : WtT B p G c l sv W x g) (hg : g + 1 ≤ x) : WtT B p G c l sv (W.setCell ⟨p, 2, none⟩ (.int .i64 ((g : Int) + 1))) x (g + 1) :=
  h.to (WKp.cell (WKp.refl p none W) 2 _) (fun b e => by cases e) (by rw [heap_setCell_same _ _ _ _ _ _ h.st.box]; rfl) h.st.le hg
theorem row_setp {W : World} {p q o : Nat} {u : Value} {C : Array Value} {t : TypeId} (h : W.heap[q]? = some (.cells C t (0, 0))) (hne : q ≠ p) : (W.setCell ⟨p, o, none⟩ u).heap[q]? = some (.cells C t (0, 0)) := by rw [heap_setCell_other _ _ _ _ hne]; exact h
theorem gr_groups {s g n g' : Nat} {l : List Tok} {ns : List NodeD} (h : Gr s g l n ns g') : g' ≤ g + l.length := by
  induction h with
  | atom _ => omega
  | grp _ _ _ ih => simp only [List.length_cons, List.length_append, List.length_nil]; omega
  | bare _ ih => exact ih
  | rep _ _ ih => simp only [List.length_append, List.length_cons, List.length_nil]; omega
  | one _ ih => exact ih
  | more _ _ i1 i2 => simp only [List.length_append]; omega
  | alt _ ih => exact ih
  | alts _ _ _ i1 i2 => simp only [List.length_append, List.length_cons]; omega
set_option maxRecDepth 100000 in
set_option maxHeartbeats 8000000 in
theorem factor_step {B p G c : Nat} {l : List Tok} {sv : Nat → Value} {M : Nat} (hF : FacC B p G c l sv M) : FacC B p G c l sv (M + 1) := by
  intro g body ns g' post x v ns0 vs0 w hM hG hd h4 hW hN hl0
  obtain ⟨f0, N0, hG0, hfN⟩ := gr_core hG rfl
  obtain ⟨r0, hr0⟩ : ∃ r0, l.drop x = f0 ++ r0 := by
    rcases hfN with ⟨e, _⟩ | ⟨rp, _, e, _⟩
    · exact ⟨post, by rw [hd, e]⟩
    · exact ⟨rp :: post, by rw [hd, e]; simp⟩
  obtain ⟨t0, f1, hf1⟩ : ∃ t0 f1, f0 = t0 :: f1 := by
    cases hf : f0 with
    | nil => exact absurd hf (gr_ne hG0)
    | cons a b => exact ⟨a, b, rfl⟩
  obtain ⟨hxl, hx0⟩ := drop_head (show l.drop x = t0 :: (f1 ++ r0) by rw [hr0, hf1]; rfl)
  have hkx : kAt l x = t0.kind := by unfold kAt; rw [hx0]
  have hlf := hW.st.few
  have hV := hW.st.tok
  obtain ⟨sr, sn, sc, hsv⟩ := hV.one x hxl
  have k0 := hV.kindC hxl
  have k1 := hV.posC hxl
  have k2 := hV.setC hxl
  have k3 := hV.minC hxl
  have k4 := hV.maxC hxl
  have hbA : Below w.heap.size w (w.alloc (.cells #[.int .i64 0, .int .i64 0, .slice none 0 0, .int .i64 0, .int .i64 0] 105)) := (Below.refl _ _).alloc (Nat.le_refl _) _
  have hVA := hV.below hbA
  have j0 := hVA.kindC hxl
  have j1 := hVA.posC hxl
  have j2 := hVA.setC hxl
  have j3 := hVA.minC hxl
  have j4 := hVA.maxC hxl
  rw [hsv] at k2 j2
  rw [hkx] at k0 j0
  generalize ((l.getD x tokZ).pos : Int) = PP at k1 j1
  generalize (l.getD x tokZ).mn = MN at k3 j3
  generalize (l.getD x tokZ).mx = MX at k4 j4
  obtain ⟨z0, z1, z2, y0, y1, y2⟩ := row_threeE hW.st.box
  obtain ⟨x0, x1, x2, -, -, -⟩ := row_threeE (row_below hW.st.box hbA)
  obtain ⟨n, hn⟩ : ∃ n, n = l.length := ⟨_, rfl⟩
  rw [← hn] at z0 x0
  have hxn : (x : Int) < (n : Int) := by omega
  have hx2 : x ≤ 2000 := by omega
  obtain ⟨ao, vn, vc, hv⟩ := hN.form
  subst hv
  obtain ⟨K, hK⟩ : ∃ K, K = t0.kind := ⟨_, rfl⟩
  rw [← hK] at k0 j0
  have HW := hid hW
  have HN := hid hN
  have HG0 := hid hG0
  have HFN := hid hfN
  have HR0 := hid hr0
  have HD := hid hd
  have H4 := hid h4
  have HM := hid hM
  have HL := hid hl0
  have Hn := hid hn
  have HK := hid hK
  have HF1 := hid hf1
  have HSV := hid hsv
  have HF := hid hF
  clear hW hN hG0 hfN hr0 hd h4 hM hl0 hn hK hf1 hsv hF hG hkx hx0 hV hlf hxl hVA hbA
  go_enter Tryz.func87, Tryz.ntmps87
  go_wp2
  go_cut [5] from 8 to 17 (fun bv wx => bv = .pointer (some ⟨w.heap.size, 0, none⟩) ∧ Below w.heap.size w wx ∧ wx.heap[w.heap.size]? = some (.cells #[.int .i64 (K : Int), .int .i64 PP, .slice sr sn sc, .int .i64 MN, .int .i64 MX] 105 (0, 0)))
  case first =>
    go_region
    go_wp2
    go_meet
    case rel => exact ⟨rfl, ((Below.refl _ _).alloc (Nat.le_refl _) _).drew, heap_alloc_new _ _⟩
  obtain ⟨rfl, hbc, hrow⟩ := hcut
  rename_i hK0
  refine hK0 _ _ ?_
  clear hK0 k0 k1 k2 k3 k4 j0 j1 j2 j3 j4 x0 x1 x2 z0 z1 z2 y0 y1 y2
  have hTc := HW.out.keep hbc
  have hq : w.heap.size ≠ p := by have := HW.out.lt; omega
  have hxl : x < l.length := by have := Hn.out; omega
  obtain ⟨z0, z1, z2, y0, y1, y2⟩ := row_threeE hTc.st.box
  clear z0 z2 y0 y2
  have HT2 := hid (hTc.next hxl)
  have HK2 : Hid (WKp p none w (wc.setCell ⟨p, 1, none⟩ (.int .i64 ((x : Int) + 1)))) := WKp.cell (WKp.of_below hbc) 1 _
  have HR2 := hid (row_setp (o := 1) (u := .int .i64 ((x : Int) + 1)) hrow hq)
  clear hrow hTc
  go_upto_region 3 with fail
  generalize wc.setCell ⟨p, 1, none⟩ (.int .i64 ((x : Int) + 1)) = W2 at *
  clear z1 y1 hbc wc
  obtain ⟨c0, c1, c2, c3, c4⟩ := row_fiveE HR2.out
  clear c1 c3 c4
  obtain ⟨bK, HbK⟩ : ∃ bK : Bool, Hid (bK = decide (K = 0)) := ⟨_, rfl⟩
  have hbe : ((K : Int) == 0) = bK := by
    rw [HbK.out]
    by_cases e : K = 0
    · subst e; rfl
    · rw [decide_eq_false e]; simp; omega
  go_cut [27] from 25 to 27 (fun bv wx => bv = .bool bK ∧ wx = W2)
  case first =>
    go_wp2
    go_meet
    case rel => exact ⟨rfl, rfl⟩
  obtain ⟨rfl, hwc⟩ := hcut
  rw [hwc]
  clear hwc wc
  rename_i hK0
  refine hK0 _ _ ?_
  clear hK0 hbe c0
  go_cut [1] from 25 to 54 (fun nv wx => Hid (WrR B p G c l sv w (.slice ao vn vc) ns0 vs0 (x + f0.length) g' N0 (blF sv x f0.length) (.returned nv) wx))
  case first =>
    rcases gr_zero HG0.out rfl with ⟨a0, ha0, hfa, hNa, hga⟩ | ⟨o, cl, li, nsi, mi, ho, hcl, hfa, hG3, hNa⟩
    · have hta : t0 = a0 := by have h9 := HF1.out; rw [hfa] at h9; cases h9; rfl
      have hK9 : bK = true := by rw [HbK.out, HK.out, hta, ha0]; rfl
      subst hK9
      have hka : kAt l x = 0 := by
        obtain ⟨h8, h9⟩ := drop_head (show l.drop x = a0 :: r0 by rw [HR0.out, hfa]; rfl)
        unfold kAt; rw [h9]; exact ha0
      have hsa : l.getD x tokZ = a0 := (drop_head (show l.drop x = a0 :: r0 by rw [HR0.out, hfa]; rfl)).2
      have hset := HT2.out.set x hxl hka
      have hblk := HT2.out.blk x hxl
      rw [HSV.out] at hset hblk
      rw [hsa] at hset
      have HSE := hid hset
      have HBL := hid hblk
      have HOW := hid (fun b h => (HN.out.own b h).1)
      have hpl := HT2.out.lt
      obtain ⟨L, HLL⟩ : ∃ L, Hid (ns0.length = L) := ⟨_, rfl⟩
      have hL9 : L ≤ 100000 := by have := HLL.out; have := HL.out; omega
      clear hset hblk hka hsa
      go_wp2_with (at_builtin; refine wpList_nodeP rfl (.tmp 28) (.tmp 32) rfl B p _ _ _ rfl (HN.out.keep (HK2.out.next (.of_below ((Below.refl _ _).alloc (Nat.le_refl _) _)))) W2.heap.size (setN a0.set) (.slice sr sn sc) rfl (heap_alloc_new _ _) (RngO.below HSE.out ((Below.refl _ _).alloc (Nat.le_refl _) _)) HBL.out L HLL.out hL9 (by simp; omega) ?_; intro g9 cap9 w9 hN9 hg9 ha9)
      have HF9 : Hid (WrR B p G c l sv w (.slice ao vn vc) ns0 vs0 (x + f0.length) g' N0 (blF sv x f0.length) (.returned (.slice (some ⟨g9, 0, none⟩) (L + 1) cap9)) w9) := by
        rw [hfa, hNa, hga]
        refine WrR.fin (HT2.out.keep ((Below.refl _ _).alloc (Nat.le_refl _) _)) (WKp.any (HK2.out.next (.of_below ((Below.refl _ _).alloc (Nat.le_refl _) _)))) (.refl _ _) HOW.out hN9 hg9 (.of ha9) ?_
        rw [show [a0].length = 1 from rfl, blF_one, HSV.out]
      clear hN9 hg9 ha9
      go_wp2
      go_meet
      case rel => exact HF9
    · have hto : t0 = o := by have h9 := HF1.out; rw [hfa] at h9; cases h9; rfl
      have hK9 : bK = false := by rw [HbK.out, HK.out, hto, ho]; rfl
      subst hK9
      have hdx : l.drop x = o :: (li ++ cl :: r0) := by rw [HR0.out, hfa]; simp
      have hd1 : l.drop (x + 1) = li ++ cl :: r0 := drop_next (body := [o]) hdx
      have hfl : f0.length = li.length + 2 := by rw [hfa]; simp
      have hbf : f0.length ≤ body.length := by rcases HFN.out with ⟨e, _⟩ | ⟨rp, _, e, _⟩ <;> rw [e] <;> simp
      have hlm : li.length ≤ M := by have := HM.out; omega
      have hx1 : x + 1 + li.length < l.length := by have h9 := congrArg List.length hd1; simp at h9; omega
      have hG9 := gr_groups hG3
      have hns9 := (gr_len hG3).2 (by omega)
      have hgl : g ≤ 2000 := by have := HW.out.gl; omega
      obtain ⟨z0, z1, z2, y0, y1, y2⟩ := row_threeE HT2.out.st.box
      clear z0 z1 y0 y1
      have HT3 := hid (HT2.out.group (by have := HW.out.gl; omega))
      have HK3 : Hid (WKp p none w (W2.setCell ⟨p, 2, none⟩ (.int .i64 ((g : Int) + 1)))) := WKp.cell HK2.out 2 _
      go_upto_region 6 with fail
      generalize W2.setCell ⟨p, 2, none⟩ (.int .i64 ((g : Int) + 1)) = W3 at *
      clear z2 y2
      obtain ⟨z0, z1, z2, -, -, -⟩ := row_threeE HT3.out.st.box
      clear z0 z1 c2
      have hA := alternatives_ok HF.out (g + 1) li mi nsi g' (cl :: r0) (x + 1) (.slice ao vn vc) ns0 vs0 W3 hlm hG3 hd1 hcl HT3.out (HN.out.keep HK3.out) (by have := HL.out; omega)
      have HX := hid (show x + f0.length = x + 1 + li.length + 1 by omega)
      have HBF : Hid (blF sv x f0.length = blF sv (x + 1) li.length) := by
        have h1 : blF sv x 1 = [] := blF_nil HT3.out hxl (by unfold kAt; rw [(drop_head hdx).2, ho]; omega)
        have hdc : l.drop (x + 1 + li.length) = cl :: r0 := drop_next hd1
        have h2 : blF sv (x + 1 + li.length) 1 = [] := blF_nil HT3.out hx1 (by unfold kAt; rw [(drop_head hdc).2, hcl]; omega)
        show _ = _
        rw [hfl, show li.length + 2 = 1 + (li.length + 1) by omega, blF_app, h1, blF_app, h2, List.append_nil]
        rfl
      have HTK := hid (fun (W : World) (h : WtT B p G c l sv W (x + 1 + li.length) g') => takes_ok 2 2 rfl (by omega) W h (b := true) (by rw [drop_next hd1]; simp [headK, hcl]) (x + 1 + li.length + 1) rfl)
      have hlen9 : ns0.length + (nsi ++ List.replicate mi altN).length ≤ 100000 := by
        have q1 := HL.out
        have q2 := congrArg List.length hd1
        have q3 := HW.out.st.few
        simp only [List.length_append, List.length_replicate, List.length_drop, List.length_cons] at q2 ⊢
        omega
      have HNA := hid hNa
      clear hns9 hG9 hx1 hlm hbf hfl hd1 hdx hNa hfa
      go_wp2_with fail
      refine hA.mono ?_
      rintro e w4 ⟨v4, vs4, rfl, hN4, hT4, hK4, hO4, hB4⟩
      obtain ⟨ao4, vn4, vc4, rfl⟩ := hN4.form
      have hTk := HTK.out w4 hT4
      have HK4 := hid ((WKp.any (row := (Value.slice ao vn vc).ownBlock) HK3.out).trans (.refl _ _) hK4)
      have HO4 : Hid (OwnT w (.slice ao vn vc) (.slice ao4 vn4 vc4)) := fun b hb => by
        rcases hO4 b hb with h9 | h9
        · exact .inl h9
        · exact .inr (Nat.le_trans HK3.out.size h9)
      have HN4 := hid hN4
      have HB4 := hid hB4
      clear hA HTK hN4 hT4 hK4 hO4 hB4
      go_wp2_with fail
      refine hTk.mono ?_
      rintro e w5 ⟨rfl, hT5, hK5⟩
      have HN5 := hid (HN4.out.keep hK5)
      have HOW := hid (fun b h => (HN5.out.own b h).1)
      have HT5 := hid hT5
      have HK5 := hid (HK4.out.next hK5)
      have hpl := hT5.lt
      obtain ⟨L, HLL⟩ : ∃ L, Hid ((ns0 ++ (nsi ++ List.replicate mi altN)).length = L) := ⟨_, rfl⟩
      have hL9 : L ≤ 100000 := by have := HLL.out; rw [List.length_append] at this; omega
      clear hTk hT5 hK5 hlen9
      go_wp2_with (at_builtin; refine wpList_nodeP rfl (.tmp 50) (.tmp 53) rfl B p _ _ _ rfl (HN5.out.keep (.of_below ((Below.refl _ _).alloc (Nat.le_refl _) _))) w5.heap.size (grpN (g + 1)) nilS rfl (heap_alloc_new _ _) (RngO.nil _ _) (fun _ hb => by cases hb) L HLL.out hL9 (by simp; omega) ?_; intro g9 cap9 w9 hN9 hg9 ha9)
      have HF9 : Hid (WrR B p G c l sv w (.slice ao vn vc) ns0 vs0 (x + f0.length) g' N0 (blF sv x f0.length) (.returned (.slice (some ⟨g9, 0, none⟩) (L + 1) cap9)) w9) := by
        rw [HX.out, HBF.out, HNA.out]
        refine WrR.fin (nv := .slice ao4 vn4 vc4) (vs1 := vs4 ++ [nilS]) (HT5.out.keep ((Below.refl _ _).alloc (Nat.le_refl _) _)) (HK5.out.next (.of_below ((Below.refl _ _).alloc (Nat.le_refl _) _))) HO4.out HOW.out ?_ hg9 (.of ha9) ?_
        · simpa [List.append_assoc] using hN9
        · rw [List.filterMap_append, HB4.out]; exact List.append_nil _
      clear hN9 hg9 ha9
      go_wp2
      go_meet
      case rel => exact HF9
  clear HT2 HK2 HR2 c2
  obtain ⟨v6, vs6, he6, hN6, hT6, hK6, hO6, hB6⟩ := hcut.out
  have hv6 : u1 = v6 := by injection he6
  subst hv6
  obtain ⟨ao6, vn6, vc6, rfl⟩ := hN6.form
  clear hcut he6
  rcases HFN.out with ⟨hbe, hne⟩ | ⟨rp, hrp, hbe, hne⟩
  · have hdb : l.drop x = f0 ++ post := by rw [HD.out, hbe]
    have s4 := sees_at 4 4 rfl (by omega) wc hT6 (b := false) (by rw [drop_next hdb]; symm; exact decide_eq_false H4.out)
    subst hbe hne
    have HN6 := hid hN6
    have HT6 := hid hT6
    have HK6 := hid hK6
    have HO6 := hid hO6
    have HB6 := hid hB6
    clear hN6 hT6 hK6 hO6 hB6 hdb
    go_wp2_with fail
    refine s4.mono ?_
    rintro e w7 ⟨rfl, hb7⟩
    clear s4
    go_wp2
    go_ret
    exact ⟨_, vs6, rfl, HN6.out.keep (.of_below hb7), HT6.out.keep hb7, HK6.out.next (.of_below hb7), HO6.out, HB6.out⟩
  · have hdb : l.drop x = f0 ++ rp :: post := by rw [HD.out, hbe]; simp
    have hdr := drop_next hdb
    obtain ⟨hyl, hy0⟩ := drop_head hdr
    have s4 := sees_at 4 4 rfl (by omega) wc hT6 (b := true) (by rw [hdr]; simp [headK, hrp])
    have HBY : Hid (blF sv x body.length = blF sv x f0.length) := by
      have h1 : blF sv (x + f0.length) 1 = [] := blF_nil hT6 hyl (by unfold kAt; rw [hy0, hrp]; omega)
      show _ = _
      rw [hbe, List.length_append, show [rp].length = 1 from rfl, blF_app, h1, List.append_nil]
    have HXY := hid (show x + body.length = x + f0.length + 1 by rw [hbe, List.length_append]; rfl)
    have hlg := (gr_len HG0.out).1 (by omega)
    have hll : ns0.length + N0.length ≤ 100000 := by
      have q1 := HL.out
      have q2 := HW.out.st.few
      omega
    have HN6 := hid hN6
    have HK6 := hid hK6
    have HO6 := hid hO6
    have HB6 := hid hB6
    have HNE := hid hne
    obtain ⟨y, hy⟩ : ∃ y, y = x + f0.length := ⟨_, rfl⟩
    rw [← hy] at HXY hT6 hyl hy0 hdr
    have hy2 : y ≤ 2000 := by have := hT6.st.few; omega
    have hyn : (y : Int) < (n : Int) := by have := Hn.out; omega
    have HT6 := hid hT6
    have HYL := hid hyl
    have HY0 := hid hy0
    clear hN6 hK6 hO6 hB6 hdb hdr hbe hne hT6 hyl hy0 hlg hy hxl
    go_wp2_with fail
    refine s4.mono ?_
    rintro e w7 ⟨rfl, hb7⟩
    have hT7 := HT6.out.keep hb7
    have hbA : Below w7.heap.size w7 (w7.alloc (.cells #[.int .i64 0, .int .i64 0, .slice none 0 0, .int .i64 0, .int .i64 0] 105)) := (Below.refl _ _).alloc (Nat.le_refl _) _
    have hTA := hT7.keep hbA
    obtain ⟨tr, tn, tc, htv⟩ := hT7.st.tok.one y HYL.out
    have k0 := hT7.st.tok.kindC HYL.out
    have k1 := hT7.st.tok.posC HYL.out
    have k2 := hT7.st.tok.setC HYL.out
    have k3 := hT7.st.tok.minC HYL.out
    have k4 := hT7.st.tok.maxC HYL.out
    have j0 := hTA.st.tok.kindC HYL.out
    have j1 := hTA.st.tok.posC HYL.out
    have j2 := hTA.st.tok.setC HYL.out
    have j3 := hTA.st.tok.minC HYL.out
    have j4 := hTA.st.tok.maxC HYL.out
    rw [htv] at k2 j2
    rw [HY0.out] at k1 k3 k4 j1 j3 j4
    generalize ((kAt l y : Nat) : Int) = KY at k0 j0
    generalize (rp.pos : Int) = PY at k1 j1
    generalize hRM : rp.mn = RM at k3 j3
    generalize hRX : rp.mx = RX at k4 j4
    obtain ⟨z0, z1, z2, -, -, -⟩ := row_threeE hT7.st.box
    obtain ⟨x0, x1, x2, -, -, -⟩ := row_threeE hTA.st.box
    rw [← Hn.out] at z0 x0
    have HT7 := hid hT7
    have HRM := hid hRM
    have HRX := hid hRX
    have HB7 := hid hb7
    clear s4 hTA hbA hT7 htv hRM hRX hb7 z2 x2
    go_upto_region 11 with fail
    go_cut [7] from 57 to 66 (fun bv wx => bv = .pointer (some ⟨w7.heap.size, 0, none⟩) ∧ Below w7.heap.size w7 wx ∧ wx.heap[w7.heap.size]? = some (.cells #[.int .i64 KY, .int .i64 PY, .slice tr tn tc, .int .i64 RM, .int .i64 RX] 105 (0, 0)))
    case first =>
      go_region
      go_wp2
      go_meet
      case rel => exact ⟨rfl, ((Below.refl _ _).alloc (Nat.le_refl _) _).drew, heap_alloc_new _ _⟩
    obtain ⟨rfl, hbc, hrow⟩ := hcut
    clear k0 k1 k2 k3 k4 j0 j1 j2 j3 j4 x0 x1 z0 z1
    rename_i hK0
    refine hK0 _ _ ?_
    clear hK0
    have hTc := HT7.out.keep hbc
    have hq7 : w7.heap.size ≠ p := by have := HT7.out.lt; omega
    obtain ⟨z0, z1, z2, y0, y1, y2⟩ := row_threeE hTc.st.box
    have HT8 := hid (hTc.next HYL.out)
    have HK8 : Hid (WKp p (Value.slice ao vn vc).ownBlock w (wc.setCell ⟨p, 1, none⟩ (.int .i64 ((y : Int) + 1)))) := WKp.cell ((HK6.out.next (.of_below HB7.out)).next (.of_below hbc)) 1 _
    have HN8 : Hid (NdP B p (wc.setCell ⟨p, 1, none⟩ (.int .i64 ((y : Int) + 1))) (.slice ao6 vn6 vc6) (ns0 ++ N0) (vs0 ++ vs6)) := ((HN6.out.keep (.of_below HB7.out)).keep (.of_below hbc)).keep (WKp.cell (.refl _ _ _) 1 _)
    have HR8 := hid (row_setp (o := 1) (u := .int .i64 ((y : Int) + 1)) hrow hq7)
    clear hrow hTc z0 z2 y0 y2
    go_upto_region 13 with fail
    generalize wc.setCell ⟨p, 1, none⟩ (.int .i64 ((y : Int) + 1)) = W8 at *
    clear z1 y1
    obtain ⟨c0, c1, c2, c3, c4⟩ := row_fiveE HR8.out
    clear c0 c1 c2
    have HOW := hid (fun b h => (HN8.out.own b h).1)
    have hpl := HT8.out.lt
    obtain ⟨L, HLL⟩ : ∃ L, Hid ((ns0 ++ N0).length = L) := ⟨_, rfl⟩
    have hL9 : L ≤ 100000 := by have := HLL.out; rw [List.length_append] at this; omega
    go_wp2_with (at_builtin; refine wpList_nodeP rfl (.tmp 74) (.tmp 80) rfl B p _ _ _ rfl (HN8.out.keep (.of_below ((Below.refl _ _).alloc (Nat.le_refl _) _))) W8.heap.size (repN RM RX) nilS rfl (heap_alloc_new _ _) (RngO.nil _ _) (fun _ hb => by cases hb) L HLL.out hL9 (by simp; omega) ?_; intro g9 cap9 w9 hN9 hg9 ha9)
    have HF9 : Hid (WrR B p G c l sv w (.slice ao vn vc) ns0 vs0 (x + body.length) g' ns (blF sv x body.length) (.returned (.slice (some ⟨g9, 0, none⟩) (L + 1) cap9)) w9) := by
      rw [HXY.out, HBY.out, HNE.out, HRM.out, HRX.out]
      refine WrR.fin (nv := .slice ao6 vn6 vc6) (vs1 := vs6 ++ [nilS]) (HT8.out.keep ((Below.refl _ _).alloc (Nat.le_refl _) _)) (HK8.out.next (.of_below ((Below.refl _ _).alloc (Nat.le_refl _) _))) HO6.out HOW.out ?_ hg9 (.of ha9) ?_
      · simpa [List.append_assoc] using hN9
      · rw [List.filterMap_append, HB6.out]; exact List.append_nil _
    clear hN9 hg9 ha9
    go_wp2
    go_ret
    exact HF9.out
theorem factor_ok {B p G c : Nat} {l : List Tok} {sv : Nat → Value} : ∀ M, FacC B p G c l sv M
  | 0 => fun _ _ _ _ _ _ _ _ _ _ hM hG => absurd (List.length_pos_iff.2 (gr_ne hG)) (by omega)
  | M + 1 => factor_step (factor_ok M)
end Go.Proofs.YtgbdlgogccgciaaGreatDoor
