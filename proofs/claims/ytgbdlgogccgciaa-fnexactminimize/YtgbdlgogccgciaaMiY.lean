import Derived.Test.YtgbdlgogccgciaaMiX
import Derived.Test.YtgbdlgogccgciaaTake
import Derived.Lib.ConvBytes
namespace Go.Proofs.Ytgbdlgogccgciaa
open Go.RowKit
attribute [local go_sem] Oper.semAt_some

/- Worlds behind a world, as one type: so that the walk rewrites with what holds of all of them. -/
structure ExtW (X : World) where
  W : World
  h : Below X.heap.size X W
instance extNonempty (X : World) : Nonempty (ExtW X) := ⟨⟨X, Below.refl _ _⟩⟩
/- minimal. -/
theorem Try.infoByteM : (Try.prog.info? 5).map (fun i => (i.zero, i.size, i.bytes)) = some (some (.int .u8 0), 1, 1) := by kernel_rfl
def appB (ats : Array TypeId) (ty : TypeId) (args : Array Value) : Sem Value := Builtin.append_ ats ty args
theorem append_appB (ty : TypeId) (args : Array Value) : Builtin.append_ #[50, 50] ty args = appB #[50, 50] ty args := rfl
theorem app_col {W : World} {B g9 c9 : Nat} {xs : List UInt8} (ho : W.ownsRow B 5 1 (.slice (some ⟨g9, 0, none⟩) xs.length c9) xs.length (bytU xs)) (hB : B ≤ W.heap.size) (hl : xs.length ≤ 100000) (b0 b1 : UInt8) (ty : TypeId) :
    ∃ g cap W', (appB #[50, 50] ty #[.slice (some ⟨g9, 0, none⟩) xs.length c9, .slice (some ⟨W.heap.size, 0, none⟩) 2 2]).run Try.prog (W.alloc (.cells #[.int .u8 b0.toNat, .int .u8 b1.toNat] 5)) = .ok (.slice (some ⟨g, 0, none⟩) (xs.length + 2) cap) W' ∧ W'.ownsRow B 5 1 (.slice (some ⟨g, 0, none⟩) (xs ++ [b0, b1]).length cap) (xs ++ [b0, b1]).length (bytU (xs ++ [b0, b1])) ∧ W.grownBy W' (some g9) := by
  obtain ⟨i0, hi0, hz0, hz1, hz2⟩ := info_parts Try.infoByteM
  have hb : Below W.heap.size W (W.alloc (.cells #[.int .u8 b0.toNat, .int .u8 b1.toNat] 5)) := (Below.refl _ _).alloc (Nat.le_refl _) _
  have own := ownsRow_below ho hb
  have hsz : (W.alloc (.cells #[.int .u8 b0.toNat, .int .u8 b1.toNat] 5)).heap.size = W.heap.size + 1 := by simp
  obtain ⟨g, cap, W', hr, own', grow', at', _⟩ := run_append_lies (P := Try.prog) (W.alloc (.cells #[.int .u8 b0.toNat, .int .u8 b1.toNat] 5)) 50 ty B 5 i0 _ 1 1 Try.underlying50 hi0 hz0 hz1 hz2 rfl (by omega) _ xs.length (bytU xs) own ⟨W.heap.size, 0, none⟩ 2 2 [.int .u8 b0.toNat, .int .u8 b1.toNat] rfl (World.news_of_block (heap_alloc_new _ _)) (by intro u hu; simp at hu; rcases hu with rfl | rfl <;> rfl) (by omega) (by unfold maxLen; omega) (by omega) (by omega) (W.heap.size + 1) hsz
  refine ⟨g, cap, W', hr, ?_, ?_⟩
  · rw [show (xs ++ [b0, b1]).length = xs.length + 2 by simp, show bytU (xs ++ [b0, b1]) = bytU xs ++ [.int .u8 b0.toNat, .int .u8 b1.toNat] by simp [bytU]]
    exact own'
  · exact ⟨grow'.os.trans hb.os, grow'.tape.trans hb.tape, grow'.output.trans hb.output, Nat.le_trans hb.size grow'.size, fun k hk hne => (grow'.block k (by have := hb.size; omega) hne).trans (hb.block k hk)⟩
/-- What minimal reads. -/
structure MmL (w : World) (D : Array Value) (b3 b4 b5 gb cb g1 K c1 g2 n c2 : Nat) (o os : List Nat) (nb : List Int) (W : World) : Prop where
  zD : W.heap[w.heap.size]? = some (.cells D 26 (0, 0))
  z3 : W.cell? ⟨b3, 0, none⟩ = some (.slice (some ⟨gb, 0, none⟩) n cb)
  z4 : W.cell? ⟨b4, 0, none⟩ = some (.slice (some ⟨g1, 0, none⟩) K c1)
  z5 : W.cell? ⟨b5, 0, none⟩ = some (.slice (some ⟨g2, 0, none⟩) n c2)
  cb : ∀ s, s < n → W.cell? ⟨gb, s, none⟩ = some (.int .i64 ((o.getD s 0 : Nat) : Int))
  c4 : ∀ k, k < K → W.cell? ⟨g1, k, none⟩ = some (.int .i64 ((os.getD k 0 : Nat) : Int))
  c5 : ∀ j, j < n → W.cell? ⟨g2, j, none⟩ = some (.int .i64 (nb.getD j 0))
theorem to_row {d : DfaD} (hf : DfaFine d) {o : List Nat} {nb : List Int} {K k c : Nat} (h : WkI d o (walkA (stN d) (anN d) K 0) nb) (hG : Going (stN d) (anN d) K) (hK : (walkA (stN d) (anN d) K 0).length = K) (hk : k < K) (hc : c < 256) : stN d ((walkA (stN d) (anN d) K 0).getD k 0) c < d.tag.length ∧ nb.getD (o.getD (stN d ((walkA (stN d) (anN d) K 0).getD k 0) c) 0) 0 = (rwA d k c : Int) ∧ rwA d k c < K := by
  have hs := h.lt _ (getD_mem (show k < (walkA (stN d) (anN d) K 0).length by omega))
  have hx := hf.stc hs hc
  have h1 := row_final hG hk hc
  have h2 := rowA_top (st := stN d) (an := anN d) hk hc
  have h3 := h.num _ hx
  rw [← h1, if_pos h2] at h3
  exact ⟨hx, h3, by unfold rwA; omega⟩
/-- Where the loop over the bytes stands. -/
structure MmI (W8 : World) (R : Nat → Nat → Nat) (K p9 c : Nat) (v : Nat → Value) (ls : Nat → List Int) (g9 c9 : Nat) (xs : List UInt8) (W : World) : Prop where
  st : MmS W8 W 0 v ls ((headsF K R c).map (colK R K)) p9 g9 c9 xs
  l0 : ls 0 = (List.range c).map fun c => (clsF K R c : Int)
  l1 : ls 1 = []
  l2 : ls 2 = []
  l3 : ls 3 = []
  l4 : ls 4 = intsN (headsF K R c)
theorem MmI.own (W8 : World) (R : Nat → Nat → Nat) (K p9 B : Nat) (hB : W8.heap.size + 6 ≤ B) : OwnFrom B (fun c W => ∃ v ls g9 c9 xs, MmI W8 R K p9 c v ls g9 c9 xs W) := by
  rintro c W W' row ⟨v, ls, g9, c9, xs, h⟩ hg hr
  have hc : ∀ {b : Nat} {cs : Array Value} {t : TypeId}, W.heap[b]? = some (.cells cs t (0, 0)) → W'.heap[b]? = some (.cells cs t (0, 0)) := fun hb => (hg.block _ (row_lt hb) (fun e => by obtain ⟨_, o, h1, h2⟩ := hr _ e.symm; rw [hb] at h1; cases h1; cases h2)).trans hb
  refine ⟨v, ls, g9, c9, xs, ⟨⟨h.st.hd.fam.keepO fun i hi b hb => ?_, hc h.st.hd.box, h.st.hd.below.grown hg (by have := h.st.size; omega) (fun b hb => by have := (hr b hb).1; omega), rfl⟩, hc h.st.b7, (hg.block _ (Array.getElem?_eq_some_iff.1 h.st.mp).1 (fun e => by have := (hr _ e.symm).1; omega)).trans h.st.mp, hc h.st.b8, own_keepM h.st.col fun b cs hb => hc hb, hc h.st.b9, h.st.ge9⟩, h.l0, h.l1, h.l2, h.l3, h.l4⟩
  obtain ⟨cs, h1⟩ := owns_int (h.st.hd.fam.own i hi) hb
  rw [hc h1, h1]
attribute [local go_sem ↓] append_appD append_appB
attribute [local go_sem] calmQ_normal

set_option maxRecDepth 100000 in
set_option maxHeartbeats 8000000 in
theorem minimal_ok (cv nv tv ev : Value) (d : DfaD) (w : World) (hs : DfaAt 0 w cv nv tv ev d) (hf : DfaFine d) :
    Calls Try.prog 19 #[.agg #[cv, .int .i64 d.width, nv, tv, ev]] w (MinP w d) := by
  have hmix : Try.prog.follows .mixedOrders = true := by kernel_rfl
  obtain ⟨iB, hjB, hyB0, hyB1, hyB2⟩ := info_parts Try.infoByteM
  have hn1 := hf.n1
  have hn2 := hf.n2
  have Hs : Hid _ := hs
  obtain ⟨⟨ca, cc, rfl, cm, cx⟩, ⟨na, nc, rfl, nm, nx⟩, ⟨ta, tc, rfl, tm, tx⟩, ⟨ea, ec, rfl, em, ex⟩⟩ := hs
  clear cx nx tx ex
  have HF : Hid (DfaFine d) := hf
  clear hf
  obtain ⟨W1, hW1⟩ : ∃ W1, (w.alloc (.cells #[.slice ca d.classes.length cc, .int .i64 d.width, .slice na d.next.length nc, .slice ta d.tag.length tc, .slice ea d.fin.length ec] 26)).alloc (.cells zeroD 26) = W1 := ⟨_, rfl⟩
  have hb1 : Below w.heap.size w W1 := by rw [← hW1]; exact ((Below.refl _ _).alloc (Nat.le_refl _) _).alloc (by simp) _
  have xD : W1.heap[w.heap.size]? = some (.cells #[.slice ca d.classes.length cc, .int .i64 d.width, .slice na d.next.length nc, .slice ta d.tag.length tc, .slice ea d.fin.length ec] 26 (0, 0)) := by
    rw [← hW1, Below.heap_alloc _ _ _ (by simp)]; exact heap_alloc_new _ _
  have xR : W1.heap[w.heap.size + 1]? = some (.cells zeroD 26 (0, 0)) := by
    rw [← hW1]
    have := heap_alloc_new (w.alloc (.cells #[.slice ca d.classes.length cc, .int .i64 d.width, .slice na d.next.length nc, .slice ta d.tag.length tc, .slice ea d.fin.length ec] 26)) (.cells zeroD 26)
    simpa using this
  obtain ⟨q0, q1, q2, q3, q4⟩ := row_five xD
  have Hb1 : Hid _ := hb1
  have HxD : Hid _ := xD
  have HxR : Hid _ := xR
  have Hal : Hid _ := alike_ok _ _ _ _ d W1 (Hs.out.below hb1) HF.out
  clear hb1 xD xR
  unfold zeroD at hW1
  refine (callsIn_wide (n := 5)).1 ?_
  refine callsIn_of_wp_marks Try.func19 rfl trivial ?_ rfl
  refine wpIn_wide.2 ?_
  simp only [Try.ntmps19, List.size_toArray, List.length_cons, List.length_nil, Nat.reduceAdd, Nat.reduceSub, Array.replicate_succ, Array.replicate_zero, List.push_toArray, List.append_toArray, List.nil_append, List.cons_append]
  go_wp2_with fail
  refine Calls.mono Hal.out ?_
  rintro e w2 ⟨bv, o, rfl, hO, hol, hon, hA, hb2⟩
  obtain ⟨gb, cb, ebv, hgb1, hgb2, hcb⟩ := owns_some hO (by rw [intsN_len]; omega)
  rw [intsN_len, hol] at ebv hcb
  subst ebv
  have Hb2 : Hid (Below w.heap.size w w2) := Hb1.out.trans (hb2.mono Hb1.out.size)
  have Hcb : Hid (∀ s, s < d.tag.length → w2.cell? ⟨gb, s, none⟩ = some (.int .i64 ((o.getD s 0 : Nat) : Int))) := fun s hs => by rw [hcb s hs, intsN_get]
  have HxD2 : Hid _ := row_below HxD.out hb2
  have HxR2 : Hid _ := row_below HxR.out hb2
  have Hon : Hid _ := hon
  have HA : Hid _ := hA
  clear hO hol hcb hon hA hb2 q0 q1 q2 q3 q4 Hal hW1 HxD HxR
  obtain ⟨W3, hW3⟩ : ∃ W3, w2.alloc (.cells #[.slice (some ⟨gb, 0, none⟩) d.tag.length cb] 22) = W3 := ⟨_, rfl⟩
  have hb3 : Below w2.heap.size w2 W3 := by rw [← hW3]; exact (Below.refl _ _).alloc (Nat.le_refl _) _
  have x3 : W3.heap[w2.heap.size]? = some (.cells #[.slice (some ⟨gb, 0, none⟩) d.tag.length cb] 22 (0, 0)) := by rw [← hW3]; exact heap_alloc_new _ _
  have y3 : W3.cell? ⟨w2.heap.size, 0, none⟩ = some (.slice (some ⟨gb, 0, none⟩) d.tag.length cb) := by rw [cell_of_row _ _ _ _ _ _ x3]; rfl
  obtain ⟨q0, q1, q2, q3, q4⟩ := row_five (row_below HxD2.out hb3)
  have Hb3 : Hid (Below w.heap.size w W3) := Hb2.out.trans (hb3.mono Hb2.out.size)
  have Hwk : Hid _ := walk_ok (bb := gb) (bo := 0) (bc := cb) _ _ _ _ d o W3 (Hs.out.below Hb3.out) HF.out (by have := hb3.size; omega) (fun s hs => by rw [Nat.zero_add, hb3.cell (p := ⟨gb, s, none⟩) hgb2]; exact Hcb.out s hs) Hon.out HA.out
  have hl3 := row_lt x3
  have Hx3 : Hid _ := x3
  have Hb23 : Hid _ := hb3
  clear x3 hb3
  go_wp2_with fail
  refine Calls.mono Hwk.out ?_
  rintro e w4 ⟨K, g1, c1, g2, c2, nb, hG, hKl, rfl, hO1, hO2, hWk, hb4⟩
  obtain ⟨W8, hW8⟩ : ∃ W8, (w4.alloc (.cells #[.slice (some ⟨g1, 0, none⟩) K c1] 22)).alloc (.cells #[.slice (some ⟨g2, 0, none⟩) d.tag.length c2] 22) = W8 := ⟨_, rfl⟩
  have hmm := @run_makeMap Try.prog
  have hKn := hWk.len
  have HWk : Hid _ := hWk
  have HG : Hid _ := hG
  have HKl : Hid _ := hKl
  have hb8 : Below w4.heap.size w4 W8 := by rw [← hW8]; exact ((Below.refl _ _).alloc (Nat.le_refl _) _).alloc (by simp) _
  have x4 : W8.heap[w4.heap.size]? = some (.cells #[.slice (some ⟨g1, 0, none⟩) K c1] 22 (0, 0)) := by
    rw [← hW8, Below.heap_alloc _ _ _ (by simp)]; exact heap_alloc_new _ _
  have x5 : W8.heap[w4.heap.size + 1]? = some (.cells #[.slice (some ⟨g2, 0, none⟩) d.tag.length c2] 22 (0, 0)) := by
    rw [← hW8]
    have := heap_alloc_new (w4.alloc (.cells #[.slice (some ⟨g1, 0, none⟩) K c1] 22)) (.cells #[.slice (some ⟨g2, 0, none⟩) d.tag.length c2] 22)
    simpa using this
  have hK0 : 1 ≤ K := by
    have := (walkA_pre (stN d) (anN d) 0 K (Nat.zero_le _))
    obtain ⟨t, ht⟩ := this
    rw [ht, walkA_zero] at hKl
    simp at hKl
    omega
  obtain ⟨g1', c1', e1', _, hg1l, hc1⟩ := owns_some hO1 (by rw [intsN_len]; omega)
  rw [intsN_len, hKl] at e1' hc1
  cases e1'
  obtain ⟨g2', c2', e2', _, hg2l, hc2⟩ := owns_some hO2 (by rw [hWk.nl]; omega)
  rw [hWk.nl] at e2' hc2
  cases e2'
  have hb28 : Below w2.heap.size w2 W8 := Hb23.out.trans ((hb4.trans (hb8.mono hb4.size)).mono Hb23.out.size)
  have HL : Hid (∀ W, Below W8.heap.size W8 W → MmL w #[.slice ca d.classes.length cc, .int .i64 d.width, .slice na d.next.length nc, .slice ta d.tag.length tc, .slice ea d.fin.length ec] w2.heap.size w4.heap.size (w4.heap.size + 1) gb cb g1 K c1 g2 d.tag.length c2 o (walkA (stN d) (anN d) K 0) nb W) := fun W hW => by
    have hB2 : Below w2.heap.size w2 W := hb28.trans (hW.mono hb28.size)
    have hB4 : Below w4.heap.size w4 W := hb8.trans (hW.mono hb8.size)
    refine ⟨row_below HxD2.out hB2, ?_, ?_, ?_, fun s hs => (hB2.cell (p := ⟨gb, s, none⟩) hgb2).trans (Hcb.out s hs), fun k hk => by rw [hB4.cell (p := ⟨g1, k, none⟩) hg1l, hc1 k hk, intsN_get], fun j hj => by rw [hB4.cell (p := ⟨g2, j, none⟩) hg2l]; exact hc2 j hj⟩
    · rw [cell_of_row _ _ _ _ _ _ (row_below (row_below Hx3.out (hb4.trans (hb8.mono hb4.size))) hW)]; rfl
    · rw [cell_of_row _ _ _ _ _ _ (row_below x4 hW)]; rfl
    · rw [cell_of_row _ _ _ _ _ _ (row_below x5 hW)]; rfl
  have HB8 : Hid (Below w.heap.size w W8) := Hb2.out.trans (hb28.mono Hb2.out.size)
  have HRes : Hid (W8.heap[w.heap.size + 1]? = some (.cells zeroD 26 (0, 0))) := row_below HxR2.out hb28
  have hwl : w.heap.size + 1 < W8.heap.size := row_lt HRes.out
  obtain ⟨W9, hW9⟩ : ∃ W9, ((((W8.alloc (.cells #[.slice none 0 0, .int .i64 0, .slice none 0 0, .slice none 0 0, .slice none 0 0] 26)).alloc (.cells #[] 3)).alloc (.cells #[.slice (some ⟨W8.heap.size + 1, 0, none⟩) 0 0] 22)).alloc (.map #[] 0)).alloc (.cells #[.map (some (W8.heap.size + 1 + 1 + 1))] 49) = W9 := ⟨_, rfl⟩
  have s9 : W9.heap.size = W8.heap.size + 5 := by rw [← hW9]; simp
  have hb9 : Below W8.heap.size W8 W9 := by rw [← hW9]; exact (((((Below.refl _ _).alloc (Nat.le_refl _) _).alloc (by simp) _).alloc (by simp; omega) _).alloc (by simp; omega) _).alloc (by simp; omega) _
  have y4 := (HL.out W9 hb9).z4
  have hKi : (K : Int) ≤ 4000 := by omega
  have Hb9 : Hid _ := hb9
  have Hs9 : Hid _ := s9
  have HW9 : Hid _ := hW9
  clear Hwk q0 q1 q2 q3 q4 y3 hO1 hO2 hb8 x4 x5 hc1 hc2 hb28 hb4 hG hKl hWk hb9 s9
  go_wp2_with (refine wpList_make_own _ rfl _ _ 50 rfl (W8.heap.size + 1) 5 iB _ 1 Try.underlying50 hjB hyB0 hyB1 _ _ _ (2 * K) rfl rfl (by omega) (by rw [hyB2]; omega) (by unfold maxLen; omega) (by have := Hs9.out; omega) ?_; intro w10 hown10 hgrow10)
  rename_i K1 hK1
  have hb10 : Below W9.heap.size W9 w10 := (Below.refl _ _).grown hgrow10 (Nat.le_refl _) (by intro k h; cases h)
  have hs10 := hb10.size
  have hs9 : W8.heap.size + 5 ≤ W9.heap.size := by have := Hs9.out; omega
  have HI0 : Hid (MmI W8 (rwA d) K w10.heap.size 0 (upd (fun _ => .slice none 0 0) 4 (.slice (some ⟨W8.heap.size + 1, 0, none⟩) 0 0)) (updL (fun _ => []) 4 []) W9.heap.size (2 * K) [] (w10.alloc (.cells #[.slice (some ⟨W9.heap.size, 0, none⟩) 0 (2 * K)] 50))) := by
    have hstart := HdS.start (W8 := W8)
    unfold zeroD at hstart
    have bz1 : Below ((W8.alloc (.cells #[.slice none 0 0, .int .i64 0, .slice none 0 0, .slice none 0 0, .slice none 0 0] 26)).alloc (.cells #[] 3)).heap.size ((W8.alloc (.cells #[.slice none 0 0, .int .i64 0, .slice none 0 0, .slice none 0 0, .slice none 0 0] 26)).alloc (.cells #[] 3)) W9 := by rw [← HW9.out]; exact (((Below.refl _ _).alloc (Nat.le_refl _) _).alloc (by simp) _).alloc (by simp) _
    have h7 : W9.heap[W8.heap.size + 1 + 1]? = some (.cells #[.slice (some ⟨W8.heap.size + 1, 0, none⟩) 0 0] 22 (0, 0)) := by
      rw [← HW9.out, Below.heap_alloc _ _ _ (by simp), Below.heap_alloc _ _ _ (by simp)]
      have := heap_alloc_new ((W8.alloc (.cells #[.slice none 0 0, .int .i64 0, .slice none 0 0, .slice none 0 0, .slice none 0 0] 26)).alloc (.cells #[] 3)) (.cells #[.slice (some ⟨W8.heap.size + 1, 0, none⟩) 0 0] 22)
      simpa using this
    have hmp : W9.heap[W8.heap.size + 1 + 1 + 1]? = some (.map #[] 0) := by
      rw [← HW9.out, Below.heap_alloc _ _ _ (by simp)]
      have := heap_alloc_new (((W8.alloc (.cells #[.slice none 0 0, .int .i64 0, .slice none 0 0, .slice none 0 0, .slice none 0 0] 26)).alloc (.cells #[] 3)).alloc (.cells #[.slice (some ⟨W8.heap.size + 1, 0, none⟩) 0 0] 22)) (.map #[] 0)
      simpa using this
    have h8 : W9.heap[W8.heap.size + 1 + 1 + 1 + 1]? = some (.cells #[.map (some (W8.heap.size + 1 + 1 + 1))] 49 (0, 0)) := by
      rw [← HW9.out]
      have := heap_alloc_new ((((W8.alloc (.cells #[.slice none 0 0, .int .i64 0, .slice none 0 0, .slice none 0 0, .slice none 0 0] 26)).alloc (.cells #[] 3)).alloc (.cells #[.slice (some ⟨W8.heap.size + 1, 0, none⟩) 0 0] 22)).alloc (.map #[] 0)) (.cells #[.map (some (W8.heap.size + 1 + 1 + 1))] 49)
      simpa using this
    have ba : Below w10.heap.size w10 (w10.alloc (.cells #[.slice (some ⟨W9.heap.size, 0, none⟩) 0 (2 * K)] 50)) := (Below.refl _ _).alloc (Nat.le_refl _) _
    have b9a := hb10.trans (ba.mono hs10)
    exact ⟨⟨(hstart.on bz1).on b9a, row_below h7 b9a, row_below hmp b9a, row_below h8 b9a, ownsRow_below hown10 ba, heap_alloc_new _ _, by omega⟩, rfl, rfl, rfl, rfl, rfl⟩
  have hsz0 : Hid ((w10.alloc (.cells #[.slice (some ⟨W9.heap.size, 0, none⟩) 0 (2 * K)] 50)).heap.size = w10.heap.size + 1) := by show _ = _; simp
  have Hb10 : Hid (Below W8.heap.size W8 w10) := Hb9.out.trans (hb10.mono (by omega))
  clear hown10 hgrow10 y4
  refine (wpIn_wide (n := 5)).1 ?_
  refine wpIn_seqN (encs := byteN) (N := 256) (gf := 30) (I := fun c W => ∃ v ls g9 c9 xs, MmI W8 (rwA d) K w10.heap.size c v ls g9 c9 xs W)
    (a₁ := fun c => { tmps := #[.agg #[.slice ca d.classes.length cc, .int .i64 d.width, .slice na d.next.length nc, .slice ta d.tag.length tc, .slice ea d.fin.length ec], .pointer (some ⟨w.heap.size, 0, none⟩), .pointer (some ⟨w.heap.size + 1, 0, none⟩), .pointer (some ⟨w2.heap.size, 0, none⟩), .pointer (some ⟨w4.heap.size, 0, none⟩), .pointer (some ⟨w4.heap.size + 1, 0, none⟩), .pointer (some ⟨W8.heap.size, 0, none⟩), .pointer (some ⟨W8.heap.size + 1 + 1, 0, none⟩), .pointer (some ⟨W8.heap.size + 1 + 1 + 1 + 1, 0, none⟩), .pointer (some ⟨w10.heap.size, 0, none⟩), .int .i64 (c : Int), undef, undef, undef, undef, undef, undef, undef, undef, undef, .agg #[.slice ca d.classes.length cc, .int .i64 d.width, .slice na d.next.length nc, .slice ta d.tag.length tc, .slice ea d.fin.length ec], .slice (some ⟨gb, 0, none⟩) d.tag.length cb, .tuple #[.slice (some ⟨g1, 0, none⟩) K c1, .slice (some ⟨g2, 0, none⟩) d.tag.length c2], .agg #[.slice ca d.classes.length cc, .int .i64 d.width, .slice na d.next.length nc, .slice ta d.tag.length tc, .slice ea d.fin.length ec], .slice (some ⟨gb, 0, none⟩) d.tag.length cb, .tuple #[.slice (some ⟨g1, 0, none⟩) K c1, .slice (some ⟨g2, 0, none⟩) d.tag.length c2], .slice (some ⟨g1, 0, none⟩) K c1, .slice (some ⟨g2, 0, none⟩) d.tag.length c2, .agg #[.slice none 0 0, .int .i64 0, .slice none 0 0, .slice none 0 0, .slice none 0 0], .slice (some ⟨W8.heap.size + 1, 0, none⟩) 0 0, .map (some (W8.heap.size + 1 + 1 + 1)), .slice (some ⟨g1, 0, none⟩) K c1, .int .i64 (K : Int), .int .i64 (2 * (K : Int)), .slice (some ⟨W9.heap.size, 0, none⟩) 0 (2 * K), .int .i64 (c : Int), undef, undef, undef, undef, undef, undef, undef, undef, undef, undef, undef, undef, undef, undef, undef, undef, undef, undef, undef, undef, undef, undef, undef, undef, undef, undef, undef, undef, undef, undef, undef, undef, undef, undef, undef, undef, undef, undef, undef, undef, undef, undef, undef, undef, undef, undef, undef, undef, undef, undef, undef, undef, undef, undef, undef, undef, undef, undef, undef, undef, undef, undef, undef, undef, undef, undef, undef, undef, undef, undef, undef, undef, undef, undef, undef, undef, undef, undef, undef, undef, undef, undef, undef, undef, undef, undef, undef, undef, undef, undef, undef, undef, undef, undef, undef, undef, undef, undef], defers := [] }) ?h1 ?hg ?eg ?hseq ?hps ?hI ?h0 ?assign ?body ?done
  case h1 => omega
  case hg => rfl
  case eg => exact enters_of Try.func30 (by kernel_rfl) rfl
  case hseq => exact allBytes_seq 4 (by omega)
  case hps => exact fun _ => rfl
  case hI => exact MmI.own W8 _ K _ _ (by rw [hsz0.out]; omega)
  case h0 => exact ⟨_, _, _, _, _, HI0.out⟩
  case assign =>
    intro l k W K2 hK2
    unfold byteN
    gi_wp2
    exact hK2
  case body =>
    rintro l0 c W5 hl0 ⟨v, ls, g9, c9, xs, H⟩ hc
    have z9 : W5.cell? ⟨w10.heap.size, 0, none⟩ = some (.slice (some ⟨g9, 0, none⟩) xs.length c9) := by rw [cell_of_row _ _ _ _ _ _ H.st.b9]; rfl
    have f9 := frozen_of_row _ _ 0 _ _ H.st.b9
    have hE := H.st.empty
    obtain ⟨Wa, hWa⟩ : ∃ Wa, W5.setCell ⟨w10.heap.size, 0, none⟩ (.slice (some ⟨g9, 0, none⟩) 0 c9) = Wa := ⟨_, rfl⟩
    rw [hWa] at hE
    have HE : Hid _ := hE
    have HKa : Hid (KeepsOthers W5 Wa) := by rw [← hWa]; exact KeepsOthers.setCell _ _ _
    have z4 := (HL.out Wa hE.hd.below).z4
    have HH : Hid _ := H
    clear hE H HI0 hK1 HW9 Hb10
    gi_wp2
    clear z9 f9 z4 hWa
    gi_loopw [40] (fun i W => ∃ (k g9 c9 : Nat), k ≤ K ∧ i = .int .i64 k ∧ Hid (MmS W8 W 0 v ls ((headsF K (rwA d) c).map (colK (rwA d) K)) w10.heap.size g9 c9 (colU (rwA d) c k)) ∧ Hid (KeepsOthers W5 W))
      (fun i _ => K - (intOf i).toNat)
    case atStart => exact ⟨0, g9, c9, Nat.zero_le _, rfl, HE, HKa⟩
    case round =>
      clear HE HKa
      obtain ⟨k, g9, c9, hk, rfl, HM, HK⟩ := hrel
      by_cases hk2 : k < K
      · have L := HL.out wr HM.out.hd.below
        obtain ⟨hxn, hnb, hrl⟩ := to_row HF.out HWk.out HG.out HKl.out hk2 hc
        have hsn := HWk.out.lt _ (getD_mem (show k < (walkA (stN d) (anN d) K 0).length by have := HKl.out; omega))
        have z0 := L.c4 k hk2
        have Hst : Hid (∀ X, Below w.heap.size w X → Calls Try.prog 31 #[.agg #[.slice ca d.classes.length cc, .int .i64 d.width, .slice na d.next.length nc, .slice ta d.tag.length tc, .slice ea d.fin.length ec], .int .i64 (((walkA (stN d) (anN d) K 0).getD k 0 : Nat) : Int), .int .i64 (c : Int)] X fun e w' => e = .returned (.int .i64 ((stN d ((walkA (stN d) (anN d) K 0).getD k 0) c : Nat) : Int)) ∧ Below X.heap.size X w') := fun X hX => by
          have := step_ok _ _ _ _ d (((walkA (stN d) (anN d) K 0).getD k 0 : Nat) : Int) c X (Hs.out.below hX) HF.out (by omega) (by omega) hc
          rw [stepF_nat HF.out hsn hc] at this
          exact this
        have hbx := Hon.out _ hxn
        have Lx : ∀ s : ExtW wr, MmL w #[.slice ca d.classes.length cc, .int .i64 d.width, .slice na d.next.length nc, .slice ta d.tag.length tc, .slice ea d.fin.length ec] w2.heap.size w4.heap.size (w4.heap.size + 1) gb cb g1 K c1 g2 d.tag.length c2 o (walkA (stN d) (anN d) K 0) nb s.W := fun s => HL.out s.W (HM.out.hd.below.trans (s.h.mono (by have := HM.out.size; omega)))
        have x5 : ∀ s : ExtW wr, s.W.cell? ⟨w4.heap.size + 1, 0, none⟩ = some (.slice (some ⟨g2, 0, none⟩) d.tag.length c2) := fun s => (Lx s).z5
        have x3 : ∀ s : ExtW wr, s.W.cell? ⟨w2.heap.size, 0, none⟩ = some (.slice (some ⟨gb, 0, none⟩) d.tag.length cb) := fun s => (Lx s).z3
        have xd0 : ∀ s : ExtW wr, s.W.cell? ⟨w.heap.size, 0, none⟩ = some (.slice ca d.classes.length cc) := fun s => (row_five (Lx s).zD).1
        have xd1 : ∀ s : ExtW wr, s.W.cell? ⟨w.heap.size, 1, none⟩ = some (.int .i64 d.width) := fun s => (row_five (Lx s).zD).2.1
        have xd2 : ∀ s : ExtW wr, s.W.cell? ⟨w.heap.size, 2, none⟩ = some (.slice na d.next.length nc) := fun s => (row_five (Lx s).zD).2.2.1
        have xd3 : ∀ s : ExtW wr, s.W.cell? ⟨w.heap.size, 3, none⟩ = some (.slice ta d.tag.length tc) := fun s => (row_five (Lx s).zD).2.2.2.1
        have xd4 : ∀ s : ExtW wr, s.W.cell? ⟨w.heap.size, 4, none⟩ = some (.slice ea d.fin.length ec) := fun s => (row_five (Lx s).zD).2.2.2.2
        have xb : ∀ s : ExtW wr, s.W.cell? ⟨gb, stN d ((walkA (stN d) (anN d) K 0).getD k 0) c, none⟩ = some (.int .i64 ((o.getD (stN d ((walkA (stN d) (anN d) K 0).getD k 0) c) 0 : Nat) : Int)) := fun s => (Lx s).cb _ hxn
        have xn : ∀ s : ExtW wr, s.W.cell? ⟨g2, o.getD (stN d ((walkA (stN d) (anN d) K 0).getD k 0) c) 0, none⟩ = some (.int .i64 ((rwA d k c : Nat) : Int)) := fun s => by rw [(Lx s).c5 _ hbx, hnb]
        have hstep : ∀ s : ExtW wr, Calls Try.prog 31 #[.agg #[.slice ca d.classes.length cc, .int .i64 d.width, .slice na d.next.length nc, .slice ta d.tag.length tc, .slice ea d.fin.length ec], .int .i64 (((walkA (stN d) (anN d) K 0).getD k 0 : Nat) : Int), .int .i64 (c : Int)] s.W fun e w' => e = .returned (.int .i64 ((stN d ((walkA (stN d) (anN d) K 0).getD k 0) c : Nat) : Int)) ∧ ∃ s' : ExtW wr, w' = s'.W := fun s => by
          have hB := HM.out.hd.below.trans (s.h.mono (by have := HM.out.size; omega))
          refine (Hst.out s.W (HB8.out.trans (hB.mono HB8.out.size))).mono ?_
          rintro e w' ⟨rfl, hw⟩
          exact ⟨rfl, ⟨w', s.h.trans (hw.mono s.h.size)⟩, rfl⟩
        have Hcs : Hid _ := colU_succ (rwA d) c k
        have hcl := colU_len (rwA d) c k
        have hb0 : IntKind.u8.wrap ((rwA d k c : Nat) : Int) = (((byteU (rwA d k c)).toNat : Nat) : Int) := by rw [byteU_nat]; simp [IntKind.wrap, IntKind.bits, IntKind.signed]
        have hb1 : IntKind.u8.wrap (((rwA d k c : Nat) : Int) / 256) = (((byteU (rwA d k c / 256)).toNat : Nat) : Int) := by rw [byteU_nat]; simp [IntKind.wrap, IntKind.bits, IntKind.signed]
        clear Hst Lx L hnb hsn
        generalize hw0 : byteU (rwA d k c) = u0 at *
        generalize hw1 : byteU (rwA d k c / 256) = u1 at *
        generalize (walkA (stN d) (anN d) K 0).getD k 0 = s0 at *
        generalize stN d s0 c = x at *
        generalize o.getD x 0 = bx at *
        generalize rwA d k c = tt at *
        have hi1 : (k : Int) < (K : Int) := by omega
        have hi2 : (x : Int) < (d.tag.length : Int) := by omega
        have hi3 : (bx : Int) < (d.tag.length : Int) := by omega
        have hi4 : (tt : Int) ≤ 4000 := by omega
        have Hcl : Hid _ := hcl
        clear hcl hw0 hw1
        gi_wp2
        refine wpIn_region_pre 11 (fun w' => ∃ s : ExtW wr, w' = s.W) hmix ⟨⟨wr.drew, ⟨rfl, rfl, rfl, Nat.le_refl _, fun _ _ => rfl⟩⟩, rfl⟩ (by rintro ⟨_, _, h⟩; exact h) (by decide) (by kernel_rfl) rfl ?_
        intro os hos
        simp only [List.take_succ_cons, List.take_zero] at hos
        subst hos
        repeat (go_big_quiet_step (exact hstep _))
        refine wpQuiet_nil ?_
        rintro w' ⟨⟨Wb, hWb⟩, rfl⟩ r hr
        simp only [List.drop_succ_cons, List.drop_zero] at hr
        subst hr
        clear x5 x3 xd0 xd1 xd2 xd3 xd4 xb xn hstep
        have hM2 := HM.out.on hWb
        have z9 : w'.cell? ⟨w10.heap.size, 0, none⟩ = some (.slice (some ⟨g9, 0, none⟩) (colU (rwA d) c k).length c9) := by rw [cell_of_row _ _ _ _ _ _ hM2.b9]; rfl
        obtain ⟨g', c', w6, hap, ho6, hg6⟩ := app_col hM2.col (by have := hM2.size; omega) (by have := Hcl.out; omega) u0 u1 50
        obtain ⟨z96, f96, hM6⟩ := hM2.column ho6 hg6
        rw [show (colU (rwA d) c k ++ [u0, u1]).length = (colU (rwA d) c k).length + 2 by simp] at hM6
        have HM6 : Hid _ := hM6
        have HK6 : Hid (KeepsOthers W5 (w6.setCell ⟨w10.heap.size, 0, none⟩ (.slice (some ⟨g', 0, none⟩) ((colU (rwA d) c k).length + 2) c'))) := by
          obtain ⟨cs9, h9, _⟩ := hM2.colBlock
          exact ((HK.out.trans (keeps_below hWb)).trans (KeepsOthers.of_grownBy hg6 fun j _ e ho => by
            have e2 := Option.some.inj e
            rw [← e2, h9] at ho
            rw [← Option.some.inj ho]
            rfl)).trans (KeepsOthers.setCell _ _ _)
        clear hM2 ho6 hg6 hM6
        generalize (colU (rwA d) c k).length = cl at *
        go_wp2
        gi_wp2
        go_roundw
        case rel => exact ⟨k + 1, g', c', by omega, by go_num, by rw [Hcs.out]; exact HM6.out, HK6⟩
        case measure => simp [intOf]; omega
      · have hkk : k = K := by omega
        have hM := HM.out
        rw [hkk] at hM
        have HM' : Hid _ := hM
        have hbnd : ∀ j x, j < K → x ≤ c → rwA d j x < 65536 := fun j x hj hx => by
          have := (to_row HF.out HWk.out HG.out HKl.out hj (show x < 256 by omega)).2.2
          omega
        have z8 : wr.cell? ⟨W8.heap.size + 1 + 1 + 1 + 1, 0, none⟩ = some (.map (some (W8.heap.size + 1 + 1 + 1))) := by rw [cell_of_row _ _ _ _ _ _ hM.b8]; rfl
        have z9 : wr.cell? ⟨w10.heap.size, 0, none⟩ = some (.slice (some ⟨g9, 0, none⟩) (colU (rwA d) c K).length c9) := by rw [cell_of_row _ _ _ _ _ _ hM.b9]; rfl
        have hcv := run_convert_bytes_back (P := Try.prog) wr 50 9 5 ⟨g9, 0, none⟩ c9 (colU (rwA d) c K) Try.underlying50 Try.underlying5 Try.underlying9 (fun j hj => by
          have e : (⟨g9, 0, none⟩ : Addr).add j = ⟨g9, j, none⟩ := by unfold Addr.add; split <;> simp_all
          rw [e, hM.col.cellAt j (by omega)]
          simp [bytU, hj])
        have hnum := numberS_ok (W8.heap.size + 1 + 1 + 1) _ (colK (rwA d) K c) wr hM.mp
        have Hidx : Hid _ := heads_idx hbnd
        have Hadd : Hid _ := heads_add hbnd
        have Hnew : Hid _ := heads_new hbnd
        have Hsuc : Hid _ := headsF_succ K (rwA d) c
        have hck : colK (rwA d) K c = ⟨(colU (rwA d) c K).toArray⟩ := rfl
        have hL4 := HH.out.l4
        have hL0 := HH.out.l0
        have hll : (headsF K (rwA d) c).length ≤ 256 := by have := heads_len K (rwA d) c; omega
        have hHB : Hid (w10.heap.size + 1 = (w10.alloc (.cells #[.slice (some ⟨W9.heap.size, 0, none⟩) 0 (2 * K)] 50)).heap.size) := hsz0.out.symm
        unfold NumR at hnum
        rw [heads_idx hbnd, heads_add hbnd] at hnum
        rw [← hck] at hcv
        clear hck hM
        obtain ⟨w9n, hw9n⟩ : ∃ n, (colU (rwA d) c K).length = n := ⟨_, rfl⟩
        rw [hw9n] at z9 hcv
        have Hw9 : Hid _ := hw9n
        clear hw9n
        have hi1 : ¬(k : Int) < (K : Int) := by omega
        clear hkk
        by_cases hfr : clsF K (rwA d) c < (headsF K (rwA d) c).length
        · have hnum2 : Calls Try.prog 32 #[.map (some (W8.heap.size + 1 + 1 + 1)), .string (colK (rwA d) K c)] wr fun e w' => e = .returned (.tuple #[.int .i64 ((clsF K (rwA d) c : Nat) : Int), .bool false]) ∧ w'.heap[W8.heap.size + 1 + 1 + 1]? = some (.map (regE Value.string ((headsF K (rwA d) (c + 1)).map (colK (rwA d) K))) ((headsF K (rwA d) (c + 1)).map (colK (rwA d) K)).length) ∧ wr.grownBy w' (some (W8.heap.size + 1 + 1 + 1)) := by
            refine hnum.mono ?_
            rintro e w' ⟨a, b, e3⟩
            exact ⟨by rw [a]; simp [Hnew.out.2 hfr], b, e3⟩
          rw [if_pos hfr] at Hsuc
          have HN2 : Hid _ := hnum2
          clear hnum hnum2
          generalize colK (rwA d) K c = key at *
          gi_wp2_with fail
          refine ⟨trivial, ?_⟩
          refine (CallsIn.inRound l0 (callsIn_wide.2 HN2.out)).mono ?_
          rintro e w6 ⟨rfl, hm6, hg6⟩
          have HMr : Hid _ := HM'.out.reg hg6 hm6
          have HKr : Hid (KeepsFrom (w10.alloc (.cells #[.slice (some ⟨W9.heap.size, 0, none⟩) 0 (2 * K)] 50)).heap.size W5 w6) := (HK.out.from _).trans (KeepsFrom.of_grownBy hg6 (fun j e => by cases e; rw [hsz0.out]; omega))
          clear hm6 hg6 z8 z9 hcv HN2
          obtain ⟨⟨a0, c0'⟩, e0⟩ := owns_formD (HMr.out.hd.fam.own 0 (by omega))
          have hln0 : (ls 0).length = c := by rw [HH.out.l0]; simp
          rw [hln0] at e0
          have z0 : w6.cell? ⟨W8.heap.size, 0, none⟩ = some (.slice a0 c c0') := by rw [(row_D HMr.out.hd.box).1, e0]
          have HEq0 : Hid _ := e0
          clear e0
          obtain ⟨g7', c7', w7, hap7, hF7, hg7⟩ := app_fam0 HMr.out.hd.fam 0 (by omega) _ rfl c hln0 _ HEq0.out ((clsF K (rwA d) c : Nat) : Int) (by omega) (by have := HMr.out.size; omega) 22
          obtain ⟨hbx7, hM7⟩ := HMr.out.field (i := 0) (off := 0) (by omega) rfl hF7 hg7
          have z07 : w7.cell? ⟨W8.heap.size, 0, none⟩ = some (.slice a0 c c0') := by rw [(row_D hbx7).1, HEq0.out]
          have f07 := frozen_of_row _ _ 0 _ _ hbx7
          have HM7 : Hid _ := hM7
          have HK7 : Hid (KeepsFrom (w10.alloc (.cells #[.slice (some ⟨W9.heap.size, 0, none⟩) 0 (2 * K)] 50)).heap.size W5 (w7.setCell ⟨W8.heap.size, 0, none⟩ (.slice (some ⟨g7', 0, none⟩) (c + 1) c7'))) := HKr.out.trans (((keeps_fam HMr.out.hd.fam (i := 0) (by omega) hg7).trans (KeepsOthers.setCell _ _ _)).from _)
          clear hF7 hg7 hbx7 hM7 hln0
          gi_wp2
          refine ⟨HK7.out, _, _, g9, c9, _, ⟨HM7.out, ?_, ?_, ?_, ?_, ?_⟩⟩
          · rw [updL_same, HH.out.l0, List.range_succ, List.map_append]; rfl
          · rw [updL_ne _ _ (by omega)]; exact HH.out.l1
          · rw [updL_ne _ _ (by omega)]; exact HH.out.l2
          · rw [updL_ne _ _ (by omega)]; exact HH.out.l3
          · rw [updL_ne _ _ (by omega), Hsuc.out]; exact HH.out.l4
        · have hnum2 : Calls Try.prog 32 #[.map (some (W8.heap.size + 1 + 1 + 1)), .string (colK (rwA d) K c)] wr fun e w' => e = .returned (.tuple #[.int .i64 ((clsF K (rwA d) c : Nat) : Int), .bool true]) ∧ w'.heap[W8.heap.size + 1 + 1 + 1]? = some (.map (regE Value.string ((headsF K (rwA d) (c + 1)).map (colK (rwA d) K))) ((headsF K (rwA d) (c + 1)).map (colK (rwA d) K)).length) ∧ wr.grownBy w' (some (W8.heap.size + 1 + 1 + 1)) := by
            refine hnum.mono ?_
            rintro e w' ⟨a, b, e3⟩
            have hnk : colK (rwA d) K c ∉ (headsF K (rwA d) c).map (colK (rwA d) K) := fun h => hfr (Hnew.out.1 h)
            exact ⟨by rw [a]; simp only [hnk, not_false_eq_true, decide_true], b, e3⟩
          rw [if_neg hfr] at Hsuc
          have HN2 : Hid _ := hnum2
          clear hnum hnum2
          generalize colK (rwA d) K c = key at *
          gi_wp2_with fail
          refine ⟨trivial, ?_⟩
          refine (CallsIn.inRound l0 (callsIn_wide.2 HN2.out)).mono ?_
          rintro e w6 ⟨rfl, hm6, hg6⟩
          have HMr : Hid _ := HM'.out.reg hg6 hm6
          have HKr : Hid (KeepsFrom (w10.alloc (.cells #[.slice (some ⟨W9.heap.size, 0, none⟩) 0 (2 * K)] 50)).heap.size W5 w6) := (HK.out.from _).trans (KeepsFrom.of_grownBy hg6 (fun j e => by cases e; rw [hsz0.out]; omega))
          clear hm6 hg6 z8 z9 hcv HN2
          obtain ⟨⟨a4, c4'⟩, e4⟩ := owns_formD (HMr.out.hd.fam.own 4 (by omega))
          have hln4 : (ls 4).length = (headsF K (rwA d) c).length := by rw [HH.out.l4, intsN_len]
          rw [hln4] at e4
          have z7 : w6.cell? ⟨W8.heap.size + 1 + 1, 0, none⟩ = some (.slice a4 (headsF K (rwA d) c).length c4') := by rw [cell_of_row _ _ _ _ _ _ HMr.out.b7, ← e4]; rfl
          obtain ⟨gh, ch, wh, haph, hFh, hgh⟩ := app_fam0 HMr.out.hd.fam 4 (by omega) _ rfl (headsF K (rwA d) c).length hln4 _ e4 (c : Int) (by omega) (by have := HMr.out.size; omega) 22
          obtain ⟨z7h, f7h, hMh⟩ := HMr.out.head hFh hgh
          rw [e4] at z7h
          obtain ⟨WX, hWX⟩ : ∃ WX, wh.setCell ⟨W8.heap.size + 1 + 1, 0, none⟩ (.slice (some ⟨gh, 0, none⟩) ((headsF K (rwA d) c).length + 1) ch) = WX := ⟨_, rfl⟩
          rw [hWX] at hMh
          have HMx : Hid _ := hMh
          have HKx : Hid (KeepsFrom (w10.alloc (.cells #[.slice (some ⟨W9.heap.size, 0, none⟩) 0 (2 * K)] 50)).heap.size W5 WX) := by rw [← hWX]; exact HKr.out.trans (((keeps_fam HMr.out.hd.fam (i := 4) (by omega) hgh).trans (KeepsOthers.setCell _ _ _)).from _)
          have hlx : updL ls 4 (ls 4 ++ [(c : Int)]) 0 = (List.range c).map fun c => (clsF K (rwA d) c : Int) := by rw [updL_ne _ _ (by omega)]; exact HH.out.l0
          have Hlx : Hid _ := hlx
          clear hMh hFh hgh e4 hln4 hlx
          obtain ⟨⟨a0, c0'⟩, e0⟩ := owns_formD (HMx.out.hd.fam.own 0 (by omega))
          have hln0 : (updL ls 4 (ls 4 ++ [(c : Int)]) 0).length = c := by rw [Hlx.out]; simp
          rw [hln0] at e0
          have z0 : WX.cell? ⟨W8.heap.size, 0, none⟩ = some (.slice a0 c c0') := by rw [(row_D HMx.out.hd.box).1, e0]
          have HEq0 : Hid _ := e0
          clear e0
          obtain ⟨g7', c7', w7, hap7, hF7, hg7⟩ := app_fam0 HMx.out.hd.fam 0 (by omega) _ rfl c hln0 _ HEq0.out ((clsF K (rwA d) c : Nat) : Int) (by omega) (by have := HMx.out.size; omega) 22
          obtain ⟨hbx7, hM7⟩ := HMx.out.field (i := 0) (off := 0) (by omega) rfl hF7 hg7
          have z07 : w7.cell? ⟨W8.heap.size, 0, none⟩ = some (.slice a0 c c0') := by rw [(row_D hbx7).1, HEq0.out]
          have f07 := frozen_of_row _ _ 0 _ _ hbx7
          have HM7 : Hid _ := hM7
          have HK7 : Hid (KeepsFrom (w10.alloc (.cells #[.slice (some ⟨W9.heap.size, 0, none⟩) 0 (2 * K)] 50)).heap.size W5 (w7.setCell ⟨W8.heap.size, 0, none⟩ (.slice (some ⟨g7', 0, none⟩) (c + 1) c7'))) := HKx.out.trans (((keeps_fam HMx.out.hd.fam (i := 0) (by omega) hg7).trans (KeepsOthers.setCell _ _ _)).from _)
          clear hF7 hg7 hbx7 hM7 hln0
          gi_wp2
          refine ⟨HK7.out, _, _, g9, c9, _, ⟨HM7.out, ?_, ?_, ?_, ?_, ?_⟩⟩
          · rw [updL_same, Hlx.out, List.range_succ, List.map_append]; rfl
          · rw [updL_ne _ _ (by omega)]; rw [updL_ne _ _ (by omega)]; exact HH.out.l1
          · rw [updL_ne _ _ (by omega)]; rw [updL_ne _ _ (by omega)]; exact HH.out.l2
          · rw [updL_ne _ _ (by omega)]; rw [updL_ne _ _ (by omega)]; exact HH.out.l3
          · rw [updL_ne _ _ (by omega), Hsuc.out]; rw [updL_same, HH.out.l4]; simp [intsN]
  case done =>
    rintro D W5 hDe ⟨v, ls, g9, c9, xs, H⟩ hD
    refine hK1 _ _ ?_
    obtain ⟨ta', tc', eta, _, htx⟩ := Hs.out.tag
    cases eta
    obtain ⟨tb, to2, hta, _, tl, tq⟩ := htx (by omega)
    subst hta
    obtain ⟨ea', ec', eea, _, hex⟩ := Hs.out.fin
    cases eea
    obtain ⟨eb, eo2, hea, _, el, eq⟩ := hex (by have := HF.out.fl; omega)
    subst hea
    have Htq : Hid (∀ W, Below W8.heap.size W8 W → ∀ s, s < d.tag.length → W.cell? ⟨tb, to2 + s, none⟩ = some (.int .i64 (d.tag.getD s 0)) ∧ W.cell? ⟨eb, eo2 + s, none⟩ = some (.int .i64 (d.fin.getD s 0))) := fun W hW s hs => by
      have hBW : Below w.heap.size w W := HB8.out.trans (hW.mono HB8.out.size)
      exact ⟨by rw [hBW.cell (p := ⟨tb, to2 + s, none⟩) tl]; exact tq s hs, by rw [hBW.cell (p := ⟨eb, eo2 + s, none⟩) el]; exact eq s (by have := HF.out.fl; omega)⟩
    have HD : Hid _ := hD
    have HDw : Hid (w.heap.size ≤ D) := by
      show _ ≤ _
      rw [hDe]
      have := hsz0.out
      omega
    clear hDe hD HI0 hK1 htx hex tq eq HW9
    generalize hhd : headsF K (rwA d) 256 = hd at *
    have Hhd : Hid _ := hhd
    have hhl : hd.length ≤ 256 := by rw [← hhd]; exact heads_len _ _ _
    have Hlt : Hid (∀ j, j < hd.length → hd.getD j 0 < 256) := fun j hj => heads_lt K (rwA d) 256 _ (by rw [hhd]; exact getD_mem hj)
    clear hhd
    have hl4 : ls 4 = intsN hd := by rw [H.l4, Hhd.out]
    obtain ⟨⟨a4, c4'⟩, e4⟩ := owns_formD (H.st.hd.fam.own 4 (by omega))
    rw [hl4, intsN_len] at e4
    have z7 : W5.cell? ⟨W8.heap.size + 1 + 1, 0, none⟩ = some (.slice a4 hd.length c4') := by rw [cell_of_row _ _ _ _ _ _ H.st.b7, ← e4]; rfl
    have y1 := (row_D H.st.hd.box).2.1
    have fm := frozen_of_row _ _ 1 _ _ H.st.hd.box
    have hM6 := H.st.width' (hd.length : Int)
    obtain ⟨W6, hW6⟩ : ∃ W6, W5.setCell ⟨W8.heap.size, 1, none⟩ (.int .i64 (hd.length : Int)) = W6 := ⟨_, rfl⟩
    rw [hW6] at hM6
    have HM6 : Hid _ := hM6
    have He4 : Hid _ := e4
    have Hls : Hid (ls 0 = (List.range 256).map (fun c => (clsF K (rwA d) c : Int)) ∧ ls 1 = nextP (rwA d) hd 0 ∧ ls 2 = ((walkA (stN d) (anN d) K 0).take 0).map (fun s => d.tag.getD s 0) ∧ ls 3 = ((walkA (stN d) (anN d) K 0).take 0).map (fun s => d.fin.getD s 0) ∧ ls 4 = intsN hd) := ⟨H.l0, by rw [H.l1]; rfl, by rw [H.l2]; simp, by rw [H.l3]; simp, hl4⟩
    have HK6 : Hid (KeepsOthers W5 W6) := by rw [← hW6]; exact KeepsOthers.setCell _ _ _
    have z4 := (HL.out W6 hM6.hd.below).z4
    clear hM6 e4 hl4 H
    go_wp2
    clear z7 y1 fm hW6 z4
    generalize hkeys : (headsF K (rwA d) 256).map (colK (rwA d) K) = keys at *
    clear hkeys
    go_loopw [86] (fun i W => ∃ (q : Nat) (v' : Nat → Value) (ls' : Nat → List Int), q ≤ K ∧ i = .int .i64 q ∧ Hid (MmS W8 W (hd.length : Int) v' ls' keys w10.heap.size g9 c9 xs) ∧ Hid (v' 4 = .slice a4 hd.length c4') ∧ Hid (ls' 0 = (List.range 256).map (fun c => (clsF K (rwA d) c : Int)) ∧ ls' 1 = nextP (rwA d) hd q ∧ ls' 2 = ((walkA (stN d) (anN d) K 0).take q).map (fun s => d.tag.getD s 0) ∧ ls' 3 = ((walkA (stN d) (anN d) K 0).take q).map (fun s => d.fin.getD s 0) ∧ ls' 4 = intsN hd) ∧ Hid (KeepsOthers W5 W))
      (fun i _ => K - (intOf i).toNat)
    case atStart => exact ⟨0, v, ls, Nat.zero_le _, rfl, HM6, He4, Hls, HK6⟩
    case round =>
      clear HM6 Hls HK6 He4
      obtain ⟨q, v', ls', hq, rfl, HM, Hv4, Hls, HK⟩ := hrel
      by_cases hq2 : q < K
      · have hsn := HWk.out.lt _ (getD_mem (show q < (walkA (stN d) (anN d) K 0).length by have := HKl.out; omega))
        have z0 := (HL.out wr HM.out.hd.below).c4 q hq2
        have HT : Hid _ := take_mapN (fun s => d.tag.getD s 0) (walkA (stN d) (anN d) K 0) (q := q) (by have := HKl.out; omega)
        have HE : Hid _ := take_mapN (fun s => d.fin.getD s 0) (walkA (stN d) (anN d) K 0) (q := q) (by have := HKl.out; omega)
        have Htk : Hid (∀ f : Nat → Int, (((walkA (stN d) (anN d) K 0).take q).map f).length = q) := fun f => by have := HKl.out; rw [List.length_map, List.length_take, this]; omega
        have Hos : Hid (∀ j, j < hd.length → hd.getD j 0 < 256 ∧ stN d ((walkA (stN d) (anN d) K 0).getD q 0) (hd.getD j 0) < d.tag.length ∧ nb.getD (o.getD (stN d ((walkA (stN d) (anN d) K 0).getD q 0) (hd.getD j 0)) 0) 0 = (rwA d q (hd.getD j 0) : Int) ∧ rwA d q (hd.getD j 0) < K) := fun j hj => ⟨Hlt.out j hj, to_row HF.out HWk.out HG.out HKl.out hq2 (Hlt.out j hj)⟩
        have Hsn : Hid _ := hsn
        have hi1 : (q : Int) < (K : Int) := by omega
        generalize hs0 : (walkA (stN d) (anN d) K 0).getD q 0 = s0 at *
        have Hs0 : Hid _ := hs0
        clear hs0
        have hi2 : (s0 : Int) < (d.tag.length : Int) := by omega
        have hi3 : (s0 : Int) < (d.fin.length : Int) := by have := HF.out.fl; omega
        obtain ⟨t1, ht1⟩ : ∃ t1, d.tag.getD s0 0 = t1 := ⟨_, rfl⟩
        obtain ⟨t2, ht2⟩ : ∃ t2, d.fin.getD s0 0 = t2 := ⟨_, rfl⟩
        have Ht1 : Hid _ := ht1
        have Ht2 : Hid _ := ht2
        clear hsn ht1 ht2
        obtain ⟨⟨a2, p2⟩, e2⟩ := owns_formD (HM.out.hd.fam.own 2 (by omega))
        rw [Hls.out.2.2.1, Htk.out] at e2
        have He2 : Hid _ := e2
        clear e2
        have Lx : ∀ s : ExtW wr, Below W8.heap.size W8 s.W := fun s => HM.out.hd.below.trans (s.h.mono (by have := HM.out.size; omega))
        have xm : ∀ s : ExtW wr, s.W.cell? ⟨W8.heap.size, 3, none⟩ = some (.slice a2 q p2) := fun s => by rw [(row_D (HM.out.on s.h).hd.box).2.2.2.1, He2.out]
        have xd : ∀ s : ExtW wr, s.W.cell? ⟨w.heap.size, 3, none⟩ = some (.slice (some ⟨tb, to2, none⟩) d.tag.length tc) := fun s => (row_five (HL.out s.W (Lx s)).zD).2.2.2.1
        have xk : ∀ s : ExtW wr, s.W.cell? ⟨tb, to2 + s0, none⟩ = some (.int .i64 t1) := fun s => by rw [(Htq.out s.W (Lx s) s0 Hsn.out).1, Ht1.out]
        clear Lx
        go_wp2
        clear z0
        refine wp_region_takeQ 7 8 (fun w' => ∃ s : ExtW wr, w' = s.W) hmix ⟨⟨wr.drew, ⟨rfl, rfl, rfl, Nat.le_refl _, fun _ _ => rfl⟩⟩, rfl⟩ (by kernel_rfl) ?_
        intro os hos
        simp only [List.take_succ_cons, List.take_zero] at hos
        subst hos
        repeat (go_big_quiet_step (fail))
        refine wpQuiet_nil ?_
        rintro w' ⟨⟨Wb, hWb⟩, rfl⟩ r hr
        simp only [List.drop_succ_cons, List.drop_zero] at hr
        subst hr
        clear xm xd xk
        have hM1 := HM.out.on hWb
        refine wpListC_step rfl (fun K5 hK5 => ?_)
        first | go_big_move | go_big_op
        refine hK5 _ _ (fun _ => ⟨⟨_, hWb.alloc hWb.size _⟩, rfl⟩) ?_
        clear hK5 K5
        refine wpListC_rest _ _ _ _ (Nat.le_refl _) (fun _ _ h => h) ?_
        obtain ⟨g5, c5, wt, hrun, hFt, hgt⟩ := app_fam0 hM1.hd.fam 2 (by omega) _ Hls.out.2.2.1 q (Htk.out _) _ He2.out t1 (by omega) (by have := hM1.size; omega) 22
        obtain ⟨bxt, hMt⟩ := hM1.field (i := 2) (off := 3) (by omega) rfl hFt hgt
        have yt := (row_D bxt).2.2.2.1
        rw [He2.out] at yt
        have ft := frozen_of_row _ _ 3 _ _ bxt
        obtain ⟨W11, hW11⟩ : ∃ W11, wt.setCell ⟨W8.heap.size, 3, none⟩ (.slice (some ⟨g5, 0, none⟩) (q + 1) c5) = W11 := ⟨_, rfl⟩
        rw [hW11] at hMt
        have HM11 : Hid _ := hMt
        have HK11 : Hid (KeepsOthers W5 W11) := by rw [← hW11]; exact ((HK.out.trans (keeps_below hWb)).trans (keeps_fam hM1.hd.fam (i := 2) (by omega) hgt)).trans (KeepsOthers.setCell _ _ _)
        have hl3 : updL ls' 2 (((walkA (stN d) (anN d) K 0).take q).map (fun s => d.tag.getD s 0) ++ [t1]) 3 = ((walkA (stN d) (anN d) K 0).take q).map (fun s => d.fin.getD s 0) := by rw [updL_ne _ _ (by omega)]; exact Hls.out.2.2.2.1
        have Hl3 : Hid _ := hl3
        obtain ⟨⟨a3, p3⟩, e3⟩ := owns_formD (HM11.out.hd.fam.own 3 (by omega))
        rw [hl3, Htk.out] at e3
        have He3 : Hid _ := e3
        clear hMt hFt hgt bxt hM1 hl3 e3 hWb
        go_wp2
        have Lx : ∀ s : ExtW W11, Below W8.heap.size W8 s.W := fun s => HM11.out.hd.below.trans (s.h.mono (by have := HM11.out.size; omega))
        have xm : ∀ s : ExtW W11, s.W.cell? ⟨W8.heap.size, 4, none⟩ = some (.slice a3 q p3) := fun s => by rw [(row_D (HM11.out.on s.h).hd.box).2.2.2.2, He3.out]
        have xd : ∀ s : ExtW W11, s.W.cell? ⟨w.heap.size, 4, none⟩ = some (.slice (some ⟨eb, eo2, none⟩) d.fin.length ec) := fun s => (row_five (HL.out s.W (Lx s)).zD).2.2.2.2
        have xk : ∀ s : ExtW W11, s.W.cell? ⟨eb, eo2 + s0, none⟩ = some (.int .i64 t2) := fun s => by rw [(Htq.out s.W (Lx s) s0 Hsn.out).2, Ht2.out]
        clear Lx hW11 hrun yt ft
        refine wp_region_takeQ 7 8 (fun w' => ∃ s : ExtW W11, w' = s.W) hmix ⟨⟨W11.drew, ⟨rfl, rfl, rfl, Nat.le_refl _, fun _ _ => rfl⟩⟩, rfl⟩ (by kernel_rfl) ?_
        intro os hos
        simp only [List.take_succ_cons, List.take_zero] at hos
        subst hos
        repeat (go_big_quiet_step (fail))
        refine wpQuiet_nil ?_
        rintro w' ⟨⟨Wb, hWb⟩, rfl⟩ r hr
        simp only [List.drop_succ_cons, List.drop_zero] at hr
        subst hr
        clear xm xd xk
        have hM1 := HM11.out.on hWb
        refine wpListC_step rfl (fun K5 hK5 => ?_)
        first | go_big_move | go_big_op
        refine hK5 _ _ (fun _ => ⟨⟨_, hWb.alloc hWb.size _⟩, rfl⟩) ?_
        clear hK5 K5
        refine wpListC_rest _ _ _ _ (Nat.le_refl _) (fun _ _ h => h) ?_
        obtain ⟨g6, c6, we, hrun, hFe, hge⟩ := app_fam0 hM1.hd.fam 3 (by omega) _ Hl3.out q (Htk.out _) _ He3.out t2 (by omega) (by have := hM1.size; omega) 22
        obtain ⟨bxe, hMe⟩ := hM1.field (i := 3) (off := 4) (by omega) rfl hFe hge
        have ye := (row_D bxe).2.2.2.2
        rw [He3.out] at ye
        have fe := frozen_of_row _ _ 4 _ _ bxe
        obtain ⟨W12, hW12⟩ : ∃ W12, we.setCell ⟨W8.heap.size, 4, none⟩ (.slice (some ⟨g6, 0, none⟩) (q + 1) c6) = W12 := ⟨_, rfl⟩
        rw [hW12] at hMe
        have HM12 : Hid _ := hMe
        have HK12 : Hid (KeepsOthers W5 W12) := by rw [← hW12]; exact ((HK11.out.trans (keeps_below hWb)).trans (keeps_fam hM1.hd.fam (i := 3) (by omega) hge)).trans (KeepsOthers.setCell _ _ _)
        have hv12 : upd (upd v' 2 (.slice (some ⟨g5, 0, none⟩) (q + 1) c5)) 3 (.slice (some ⟨g6, 0, none⟩) (q + 1) c6) 4 = .slice a4 hd.length c4' := by rw [upd_ne _ _ (by omega), upd_ne _ _ (by omega)]; exact Hv4.out
        have z7 : W12.cell? ⟨W8.heap.size + 1 + 1, 0, none⟩ = some (.slice a4 hd.length c4') := by rw [cell_of_row _ _ _ _ _ _ hMe.b7, ← hv12]; rfl
        have Hv12 : Hid _ := hv12
        have Hls12 : Hid (updL (updL ls' 2 (((walkA (stN d) (anN d) K 0).take q).map (fun s => d.tag.getD s 0) ++ [t1])) 3 (((walkA (stN d) (anN d) K 0).take q).map (fun s => d.fin.getD s 0) ++ [t2]) 0 = (List.range 256).map (fun c => (clsF K (rwA d) c : Int)) ∧ updL (updL ls' 2 (((walkA (stN d) (anN d) K 0).take q).map (fun s => d.tag.getD s 0) ++ [t1])) 3 (((walkA (stN d) (anN d) K 0).take q).map (fun s => d.fin.getD s 0) ++ [t2]) 1 = nextJ (rwA d) hd q 0 ∧ updL (updL ls' 2 (((walkA (stN d) (anN d) K 0).take q).map (fun s => d.tag.getD s 0) ++ [t1])) 3 (((walkA (stN d) (anN d) K 0).take q).map (fun s => d.fin.getD s 0) ++ [t2]) 2 = ((walkA (stN d) (anN d) K 0).take (q + 1)).map (fun s => d.tag.getD s 0) ∧ updL (updL ls' 2 (((walkA (stN d) (anN d) K 0).take q).map (fun s => d.tag.getD s 0) ++ [t1])) 3 (((walkA (stN d) (anN d) K 0).take q).map (fun s => d.fin.getD s 0) ++ [t2]) 3 = ((walkA (stN d) (anN d) K 0).take (q + 1)).map (fun s => d.fin.getD s 0) ∧ updL (updL ls' 2 (((walkA (stN d) (anN d) K 0).take q).map (fun s => d.tag.getD s 0) ++ [t1])) 3 (((walkA (stN d) (anN d) K 0).take q).map (fun s => d.fin.getD s 0) ++ [t2]) 4 = intsN hd) := by
          refine ⟨?_, ?_, ?_, ?_, ?_⟩
          · rw [updL_ne _ _ (by omega), updL_ne _ _ (by omega)]; exact Hls.out.1
          · rw [updL_ne _ _ (by omega), updL_ne _ _ (by omega), nextJ_zero]; exact Hls.out.2.1
          · rw [updL_ne _ _ (by omega), updL_same, HT.out, Ht1.out]
          · rw [updL_same, HE.out, Ht2.out]
          · rw [updL_ne _ _ (by omega), updL_ne _ _ (by omega)]; exact Hls.out.2.2.2.2
        clear hMe hFe hge bxe hv12 hM1 hWb
        go_wp2
        rw [calmQ_normal]
        go_wp2
        clear hW12 hrun ye fe z7
        go_loopw [112] (fun i W => ∃ (j : Nat) (v2 : Nat → Value) (ls2 : Nat → List Int), j ≤ hd.length ∧ i = .int .i64 j ∧ Hid (MmS W8 W (hd.length : Int) v2 ls2 keys w10.heap.size g9 c9 xs) ∧ Hid (v2 4 = .slice a4 hd.length c4') ∧ Hid (ls2 0 = (List.range 256).map (fun c => (clsF K (rwA d) c : Int)) ∧ ls2 1 = nextJ (rwA d) hd q j ∧ ls2 2 = ((walkA (stN d) (anN d) K 0).take (q + 1)).map (fun s => d.tag.getD s 0) ∧ ls2 3 = ((walkA (stN d) (anN d) K 0).take (q + 1)).map (fun s => d.fin.getD s 0) ∧ ls2 4 = intsN hd) ∧ Hid (KeepsOthers W5 W))
          (fun i _ => hd.length - (intOf i).toNat)
        case atStart => exact ⟨0, _, _, Nat.zero_le _, rfl, HM12, Hv12, Hls12, HK12⟩
        case round =>
          clear HM12 Hv12 Hls12 HK12 HM11 HK11 HM Hv4 Hls HK HT HE Ht1 Ht2 Htk He2 He3 Hl3
          obtain ⟨j, v2, ls2, hj, rfl, HM, Hv4, Hls, HK⟩ := hrel
          by_cases hj2 : j < hd.length
          · obtain ⟨hh256, hxn, hnb, hrl⟩ := Hos.out j hj2
            have hbx := Hon.out _ hxn
            have zh : ∃ g4, a4 = some ⟨g4, 0, none⟩ ∧ wr.cell? ⟨g4, j, none⟩ = some (.int .i64 ((hd.getD j 0 : Nat) : Int)) := by
              have ho := HM.out.hd.fam.own 4 (by omega)
              rw [Hv4.out, Hls.out.2.2.2.2] at ho
              obtain ⟨g', c', e1, _, _, hcc⟩ := owns_some ho (by rw [intsN_len]; omega)
              rw [intsN_len] at e1
              cases e1
              exact ⟨g', rfl, by rw [hcc j (by rw [intsN_len]; exact hj2), intsN_get]⟩
            obtain ⟨g4, ha4, zh⟩ := zh
            have HJ : Hid _ := nextJ_succ (rwA d) hd q hj2
            have hnL := nextJ_len (rwA d) hd (q := q) (j := j) (by omega) (by omega)
            obtain ⟨⟨a1, p1⟩, e1⟩ := owns_formD (HM.out.hd.fam.own 1 (by omega))
            rw [Hls.out.2.1] at e1
            obtain ⟨nl, hnl⟩ : ∃ nl, (nextJ (rwA d) hd q j).length = nl := ⟨_, rfl⟩
            rw [hnl] at e1 hnL
            have He1 : Hid _ := e1
            have Hnl : Hid _ := hnl
            have Ha4 : Hid _ := ha4
            clear e1 hnl
            subst ha4
            have Hst : Hid (∀ X, Below w.heap.size w X → Calls Try.prog 31 #[.agg #[.slice ca d.classes.length cc, .int .i64 d.width, .slice na d.next.length nc, .slice (some ⟨tb, to2, none⟩) d.tag.length tc, .slice (some ⟨eb, eo2, none⟩) d.fin.length ec], .int .i64 (s0 : Int), .int .i64 ((hd.getD j 0 : Nat) : Int)] X fun e w' => e = .returned (.int .i64 ((stN d s0 (hd.getD j 0) : Nat) : Int)) ∧ Below X.heap.size X w') := fun X hX => by
              have := step_ok _ _ _ _ d (s0 : Int) (hd.getD j 0) X (Hs.out.below hX) HF.out (by omega) (by omega) hh256
              rw [stepF_nat HF.out Hsn.out hh256] at this
              exact this
            have Lx : ∀ s : ExtW wr, Below W8.heap.size W8 s.W := fun s => HM.out.hd.below.trans (s.h.mono (by have := HM.out.size; omega))
            have xm : ∀ s : ExtW wr, s.W.cell? ⟨W8.heap.size, 2, none⟩ = some (.slice a1 nl p1) := fun s => by rw [(row_D (HM.out.on s.h).hd.box).2.2.1, He1.out]
            have x5 : ∀ s : ExtW wr, s.W.cell? ⟨w4.heap.size + 1, 0, none⟩ = some (.slice (some ⟨g2, 0, none⟩) d.tag.length c2) := fun s => (HL.out s.W (Lx s)).z5
            have x3 : ∀ s : ExtW wr, s.W.cell? ⟨w2.heap.size, 0, none⟩ = some (.slice (some ⟨gb, 0, none⟩) d.tag.length cb) := fun s => (HL.out s.W (Lx s)).z3
            have xd0 : ∀ s : ExtW wr, s.W.cell? ⟨w.heap.size, 0, none⟩ = some (.slice ca d.classes.length cc) := fun s => (row_five (HL.out s.W (Lx s)).zD).1
            have xd1 : ∀ s : ExtW wr, s.W.cell? ⟨w.heap.size, 1, none⟩ = some (.int .i64 d.width) := fun s => (row_five (HL.out s.W (Lx s)).zD).2.1
            have xd2 : ∀ s : ExtW wr, s.W.cell? ⟨w.heap.size, 2, none⟩ = some (.slice na d.next.length nc) := fun s => (row_five (HL.out s.W (Lx s)).zD).2.2.1
            have xd3 : ∀ s : ExtW wr, s.W.cell? ⟨w.heap.size, 3, none⟩ = some (.slice (some ⟨tb, to2, none⟩) d.tag.length tc) := fun s => (row_five (HL.out s.W (Lx s)).zD).2.2.2.1
            have xd4 : ∀ s : ExtW wr, s.W.cell? ⟨w.heap.size, 4, none⟩ = some (.slice (some ⟨eb, eo2, none⟩) d.fin.length ec) := fun s => (row_five (HL.out s.W (Lx s)).zD).2.2.2.2
            have Hxb : Hid (∀ s : ExtW wr, s.W.cell? ⟨gb, stN d s0 (hd.getD j 0), none⟩ = some (.int .i64 ((o.getD (stN d s0 (hd.getD j 0)) 0 : Nat) : Int)) ∧ s.W.cell? ⟨g2, o.getD (stN d s0 (hd.getD j 0)) 0, none⟩ = some (.int .i64 ((rwA d q (hd.getD j 0) : Nat) : Int))) := fun s => ⟨(HL.out s.W (Lx s)).cb _ hxn, by rw [(HL.out s.W (Lx s)).c5 _ hbx, hnb]⟩
            have HLx : Hid _ := Lx
            clear hnb Lx
            generalize rwA d q (hd.getD j 0) = tt at *
            generalize hx : stN d s0 (hd.getD j 0) = x at *
            generalize hd.getD j 0 = h at *
            generalize o.getD x 0 = bx at *
            clear hx
            have hi4 : (j : Int) < (hd.length : Int) := by omega
            have hi5 : (x : Int) < (d.tag.length : Int) := by omega
            have hi6 : (bx : Int) < (d.tag.length : Int) := by omega
            go_wp2
            clear zh
            refine wp_region_takeQ 7 13 (fun w' => ∃ s : ExtW wr, w' = s.W) hmix ⟨⟨wr.drew, ⟨rfl, rfl, rfl, Nat.le_refl _, fun _ _ => rfl⟩⟩, rfl⟩ (by kernel_rfl) ?_
            intro os hos
            simp only [List.take_succ_cons, List.take_zero] at hos
            subst hos
            repeat (go_big_quiet_step (fail))
            refine wpQuiet_nil ?_
            rintro w' ⟨⟨Wb, hWb⟩, rfl⟩ r hr
            simp only [List.drop_succ_cons, List.drop_zero] at hr
            subst hr
            clear xm x5 x3 xd0 xd1 xd2 xd3 xd4
            have hB6 := HLx.out ⟨w', hWb⟩
            have hst6 := Hst.out w' (HB8.out.trans (hB6.mono HB8.out.size))
            refine wpListC_step rfl (fun K5 hK5 => ?_)
            first | go_big_move | go_big_op
            refine hst6.mono ?_
            rintro e w6 ⟨rfl, hb6⟩
            have hW6 : Below wr.heap.size wr w6 := hWb.trans (hb6.mono hWb.size)
            refine hK5 _ _ (fun _ => ⟨⟨_, hW6⟩, rfl⟩) ?_
            clear hK5 K5 hst6 hB6
            obtain ⟨xb, xn⟩ := Hxb.out ⟨w6, hW6⟩
            dsimp only at xb xn
            refine wpListC_step rfl (fun K5 hK5 => ?_)
            first | go_big_move | go_big_op
            refine hK5 _ _ (fun _ => ⟨⟨_, hW6⟩, rfl⟩) ?_
            clear hK5 K5
            refine wpListC_step rfl (fun K5 hK5 => ?_)
            first | go_big_move | go_big_op
            refine hK5 _ _ (fun _ => ⟨⟨_, hW6⟩, rfl⟩) ?_
            clear hK5 K5
            refine wpListC_step rfl (fun K5 hK5 => ?_)
            first | go_big_move | go_big_op
            refine hK5 _ _ (fun _ => ⟨⟨_, hW6⟩, rfl⟩) ?_
            clear hK5 K5
            refine wpListC_step rfl (fun K5 hK5 => ?_)
            first | go_big_move | go_big_op
            refine hK5 _ _ (fun _ => ⟨⟨_, hW6⟩, rfl⟩) ?_
            clear hK5 K5
            refine wpListC_step rfl (fun K5 hK5 => ?_)
            first | go_big_move | go_big_op
            refine hK5 _ _ (fun _ => ⟨⟨_, hW6.alloc hW6.size _⟩, rfl⟩) ?_
            clear hK5 K5
            refine wpListC_rest _ _ _ _ (Nat.le_refl _) (fun _ _ h => h) ?_
            have hM1 := HM.out.on hW6
            obtain ⟨g6, c6, we, hrun, hFe, hge⟩ := app_fam0 hM1.hd.fam 1 (by omega) _ Hls.out.2.1 nl Hnl.out _ He1.out (tt : Int) (by omega) (by have := hM1.size; omega) 22
            obtain ⟨bxe, hMe⟩ := hM1.field (i := 1) (off := 2) (by omega) rfl hFe hge
            have ye := (row_D bxe).2.2.1
            rw [He1.out] at ye
            have fe := frozen_of_row _ _ 2 _ _ bxe
            have HM12 : Hid _ := hMe
            have HK12 : Hid (KeepsOthers W5 (we.setCell ⟨W8.heap.size, 2, none⟩ (.slice (some ⟨g6, 0, none⟩) (nl + 1) c6))) := ((HK.out.trans (keeps_below hW6)).trans (keeps_fam hM1.hd.fam (i := 1) (by omega) hge)).trans (KeepsOthers.setCell _ _ _)
            clear hMe hFe hge bxe hM1 hWb hb6 hW6 xb xn
            go_wp2
            rw [calmQ_normal]
            go_wp2
            go_roundw
            case rel =>
              refine ⟨j + 1, _, _, by omega, by go_num, HM12, ?_, ⟨?_, ?_, ?_, ?_, ?_⟩, HK12⟩
              · show _ = _; rw [upd_ne _ _ (by omega)]; exact Hv4.out
              · rw [updL_ne _ _ (by omega)]; exact Hls.out.1
              · rw [updL_same, HJ.out]
              · rw [updL_ne _ _ (by omega)]; exact Hls.out.2.2.1
              · rw [updL_ne _ _ (by omega)]; exact Hls.out.2.2.2.1
              · rw [updL_ne _ _ (by omega)]; exact Hls.out.2.2.2.2
            case measure => simp [intOf]; omega
          · have hjj : j = hd.length := by omega
            have hi9 : ¬(j : Int) < (hd.length : Int) := by omega
            have Hjj : Hid _ := hjj
            clear hjj
            go_wp2
            go_roundw
            case rel => exact ⟨q + 1, v2, ls2, by omega, by go_num, HM, Hv4, ⟨Hls.out.1, by rw [← nextJ_end, ← Hjj.out]; exact Hls.out.2.1, Hls.out.2.2.1, Hls.out.2.2.2.1, Hls.out.2.2.2.2⟩, HK⟩
            case measure => simp [intOf]; omega
      · have hqq : q = K := by omega
        have hi1 : ¬(q : Int) < (K : Int) := by omega
        have zw := (HM.out.hd.below.block _ hwl).trans HRes.out
        unfold zeroD at zw
        obtain ⟨z0, z1, z2, z3, z4⟩ := row_five zw
        have fz : ∀ o, wr.frozen? ⟨w.heap.size + 1, o, none⟩ = false := fun _ => frozen_of_row _ _ _ _ _ zw
        obtain ⟨y0, y1, y2, y3, y4⟩ := row_D HM.out.hd.box
        obtain ⟨⟨a0, p0⟩, e0⟩ := owns_formD (HM.out.hd.fam.own 0 (by omega))
        obtain ⟨⟨a1, p1⟩, e1⟩ := owns_formD (HM.out.hd.fam.own 1 (by omega))
        obtain ⟨⟨a2, p2⟩, e2⟩ := owns_formD (HM.out.hd.fam.own 2 (by omega))
        obtain ⟨⟨a3, p3⟩, e3⟩ := owns_formD (HM.out.hd.fam.own 3 (by omega))
        rw [e0] at y0
        rw [e1] at y2
        rw [e2] at y3
        rw [e3] at y4
        have hlK := HKl.out
        have hmn : ∀ i, i < 4 → ls' i = mnL d K i := by
          intro i hi
          match i, hi with
          | 0, _ => exact Hls.out.1
          | 1, _ =>
            rw [Hls.out.2.1, hqq, ← Hhd.out]
            rfl
          | 2, _ =>
            rw [Hls.out.2.2.1, hqq, List.take_of_length_le (by omega)]
            rfl
          | 3, _ =>
            rw [Hls.out.2.2.2.1, hqq, List.take_of_length_le (by omega)]
            rfl
        have HFE : Hid (Fam W8.heap.size 4 (set5 wr (w.heap.size + 1) (.slice a0 (ls' 0).length p0) (.int .i64 (hd.length : Int)) (.slice a1 (ls' 1).length p1) (.slice a2 (ls' 2).length p2) (.slice a3 (ls' 3).length p3)) v' (mnL d K)) := ((HM.out.hd.fam.takeD (by omega)).congr (fun _ _ => rfl) hmn).set5 (by omega) _ _ _ _ _
        have HBE : Hid (Below w.heap.size w (set5 wr (w.heap.size + 1) (.slice a0 (ls' 0).length p0) (.int .i64 (hd.length : Int)) (.slice a1 (ls' 1).length p1) (.slice a2 (ls' 2).length p2) (.slice a3 (ls' 3).length p3))) := below_set5 (HB8.out.trans (HM.out.hd.below.mono HB8.out.size)) (by omega) _ _ _ _ _
        have Hrow : Hid (rowD (hd.length : Int) v' = #[.slice a0 (ls' 0).length p0, .int .i64 (hd.length : Int), .slice a1 (ls' 1).length p1, .slice a2 (ls' 2).length p2, .slice a3 (ls' 3).length p3]) := by
          show _ = _
          unfold rowD
          rw [e0, e1, e2, e3]
        have hDm : wr.heap[D]? = some (.deferred (some [])) := HK.out.same D _ HD.out rfl
        have hDne : D ≠ w.heap.size + 1 := fun e => by rw [e, zw] at hDm; cases hDm
        have HDm : Hid ((set5 wr (w.heap.size + 1) (.slice a0 (ls' 0).length p0) (.int .i64 (hd.length : Int)) (.slice a1 (ls' 1).length p1) (.slice a2 (ls' 2).length p2) (.slice a3 (ls' 3).length p3)).heap[D]? = some (.deferred (some []))) := by
          show _ = _
          unfold set5
          rw [heap_setCell_other _ _ _ _ (by exact hDne), heap_setCell_other _ _ _ _ (by exact hDne), heap_setCell_other _ _ _ _ (by exact hDne), heap_setCell_other _ _ _ _ (by exact hDne), heap_setCell_other _ _ _ _ (by exact hDne)]
          exact hDm
        have HRow5 : Hid ((set5 wr (w.heap.size + 1) (.slice a0 (ls' 0).length p0) (.int .i64 (hd.length : Int)) (.slice a1 (ls' 1).length p1) (.slice a2 (ls' 2).length p2) (.slice a3 (ls' 3).length p3)).heap[w.heap.size + 1]? = some (.cells #[.slice a0 (ls' 0).length p0, .int .i64 (hd.length : Int), .slice a1 (ls' 1).length p1, .slice a2 (ls' 2).length p2, .slice a3 (ls' 3).length p3] 26 (0, 0))) := by
          show _ = _
          unfold set5
          have h1 := heap_setCell_same wr (w.heap.size + 1) 0 _ _ (.slice a0 (ls' 0).length p0) zw
          have h2 := heap_setCell_same _ (w.heap.size + 1) 1 _ _ (.int .i64 (hd.length : Int)) h1
          have h3 := heap_setCell_same _ (w.heap.size + 1) 2 _ _ (.slice a1 (ls' 1).length p1) h2
          have h4 := heap_setCell_same _ (w.heap.size + 1) 3 _ _ (.slice a2 (ls' 2).length p2) h3
          have h5 := heap_setCell_same _ (w.heap.size + 1) 4 _ _ (.slice a3 (ls' 3).length p3) h4
          exact h5
        have HDne : Hid _ := hDne
        have hwm : w.heap.size ≤ W8.heap.size := HB8.out.size
        clear e0 e1 e2 e3 hqq zw hmn hDm hDne hlK
        generalize (ls' 0).length = n0 at *
        generalize (ls' 1).length = n1 at *
        generalize (ls' 2).length = n2 at *
        generalize (ls' 3).length = n3 at *
        go_wp2
        refine ⟨by simp, .inl ⟨_, _, rfl, run_takeDeferred HDm.out, ?_⟩⟩
        have hR := HRow5.out
        have hrow : ((set5 wr (w.heap.size + 1) (.slice a0 n0 p0) (.int .i64 (hd.length : Int)) (.slice a1 n1 p1) (.slice a2 n2 p2) (.slice a3 n3 p3)).putObj D (.deferred none)).heap[w.heap.size + 1]? = some (.cells #[.slice a0 n0 p0, .int .i64 (hd.length : Int), .slice a1 n1 p1, .slice a2 n2 p2, .slice a3 n3 p3] 26 (0, 0)) := (World.putObj_heap_other (Ne.symm HDne.out)).trans hR
        obtain ⟨r0, r1, r2, r3, r4⟩ := row_five hrow
        unfold set5 at r0 r1 r2 r3 r4
        refine ⟨.agg #[.slice a0 n0 p0, .int .i64 (hd.length : Int), .slice a1 n1 p1, .slice a2 n2 p2, .slice a3 n3 p3], by simp [results, Try.results19, go_sem, r0, r1, r2, r3, r4], K, HG.out, HKl.out, W8.heap.size, v', by rw [Hhd.out, Hrow.out], hwm, ?_, ?_⟩
        · refine HFE.out.keepO fun i hi b hb => ?_
          obtain ⟨cs, h1⟩ := owns_int (HFE.out.own i hi) hb
          refine World.putObj_heap_other (fun e : b = D => ?_)
          rw [e, HDm.out] at h1
          cases h1
        · exact HBE.out.grown (grownBy_putObj' _ D _) HBE.out.size (fun x e => by cases e; exact HDw.out)
end Go.Proofs.Ytgbdlgogccgciaa
