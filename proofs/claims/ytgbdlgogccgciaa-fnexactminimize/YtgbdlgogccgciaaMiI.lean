import Derived.Test.YtgbdlgogccgciaaMiGMiH
namespace Go.Proofs.Ytgbdlgogccgciaa
open Go.RowKit
attribute [local go_sem ↓] Go.wp_at_zero Go.wp_at_succ

theorem CuG.congr {gt : Nat} {w : World} {p m gmv cm : Nat} {mi : Nat → Nat} {v0 : Nat → Value} {l0 : Nat → List Int} {N : Nat} {o wk : List Nat} {mem : Nat → List Nat} {rM : Nat} {K K' : List Tr} {G G' : Nat → List Nat} {g c : Nat} {v : Nat → Value} {l : Nat → List Int} {W : World} (h : CuG gt w p m gmv cm mi v0 l0 N o wk mem rM K G g c v l W) (hK : K = K') (hG : ∀ j, j < K.length → G j = G' j) : CuG gt w p m gmv cm mi v0 l0 N o wk mem rM K' G' g c v l W := by
  subst hK
  exact { h with grp := fun j hj => by rw [← hG j hj]; exact h.grp j hj }
def kz : Tr := (0, 0, 0, 0, 0)
/-- The j-th group. -/
def grpJ (o : List Nat) (tr : Nat → Tr) (ys : List Nat) (j : Nat) : List Nat := grpF o tr ys ((kindsF o tr ys).getD j kz)
theorem grpF_le (o : List Nat) (tr : Nat → Tr) (ys : List Nat) (k : Tr) : (grpF o tr ys k).length ≤ ys.length := List.length_filter_le _ _
theorem getD_idxR {ks : List Tr} {k : Tr} (h : k ∈ ks) : ks.getD (idxR ks k) kz = k := by rw [List.getD_eq_getElem?_getD, idxR_get h]; rfl
theorem nodup_getD {ks : List Tr} (h : ks.Nodup) {i j : Nat} (hi : i < ks.length) (hj : j < ks.length) (e : ks.getD i kz = ks.getD j kz) : i = j := by
  rw [List.getD_eq_getElem?_getD, List.getElem?_eq_getElem hi, List.getD_eq_getElem?_getD, List.getElem?_eq_getElem hj] at e
  have hp := List.pairwise_iff_getElem.1 h
  simp only [Option.getD_some] at e
  rcases Nat.lt_trichotomy i j with k | k | k
  · exact absurd e (hp i j hi hj k)
  · exact k
  · exact absurd e.symm (hp j i hj hi k)
theorem kindsF_len (o : List Nat) (tr : Nat → Tr) (xs : List Nat) : (kindsF o tr xs).length ≤ xs.length := by
  have key : ∀ (xs : List Nat) (ks : List Tr), (xs.foldl (fun ks s => addR ks (kindF o tr s)) ks).length ≤ ks.length + xs.length := by
    intro xs
    induction xs with
    | nil => intro ks; simp
    | cons x xs ih =>
      intro ks
      have h1 := ih (addR ks (kindF o tr x))
      have h2 : (addR ks (kindF o tr x)).length ≤ ks.length + 1 := by unfold addR; split <;> simp
      simp only [List.foldl_cons, List.length_cons]
      omega
  have := key xs []
  simpa [kindsF] using this
/-- A state of a kind that was met. -/
theorem grpJ_old {o : List Nat} {tr : Nat → Tr} {ys : List Nat} {s : Nat} (hk : kindF o tr s ∈ kindsF o tr ys) : kindsF o tr (ys ++ [s]) = kindsF o tr ys ∧ ∀ i, i < (kindsF o tr ys).length → (if i = idxR (kindsF o tr ys) (kindF o tr s) then grpJ o tr ys (idxR (kindsF o tr ys) (kindF o tr s)) ++ [s] else grpJ o tr ys i) = grpJ o tr (ys ++ [s]) i := by
  have e : kindsF o tr (ys ++ [s]) = kindsF o tr ys := by rw [kindsF_snoc]; unfold addR; rw [if_pos hk]
  refine ⟨e, fun i hi => ?_⟩
  unfold grpJ
  rw [e, grpF_snoc]
  by_cases ei : i = idxR (kindsF o tr ys) (kindF o tr s)
  · subst ei
    rw [if_pos rfl, if_pos (getD_idxR hk).symm]
  · rw [if_neg ei, if_neg (fun h => ei (nodup_getD (kindsF_nodup o tr ys) hi (idxR_lt.2 hk) (by rw [getD_idxR hk]; exact h.symm)))]
/-- A state of a new kind. -/
theorem grpJ_new {o : List Nat} {tr : Nat → Tr} {ys : List Nat} {s : Nat} (hk : kindF o tr s ∉ kindsF o tr ys) : kindsF o tr (ys ++ [s]) = kindsF o tr ys ++ [kindF o tr s] ∧ ∀ i, i < (kindsF o tr ys).length + 1 → (if i = (kindsF o tr ys).length then [] ++ [s] else grpJ o tr ys i) = grpJ o tr (ys ++ [s]) i := by
  have e : kindsF o tr (ys ++ [s]) = kindsF o tr ys ++ [kindF o tr s] := by rw [kindsF_snoc]; unfold addR; rw [if_neg hk]
  refine ⟨e, fun i hi => ?_⟩
  unfold grpJ
  rw [e, grpF_snoc]
  by_cases ei : i = (kindsF o tr ys).length
  · subst ei
    have hg : (kindsF o tr ys ++ [kindF o tr s]).getD (kindsF o tr ys).length kz = kindF o tr s := by simp
    rw [if_pos rfl, hg, if_pos rfl]
    have : grpF o tr ys (kindF o tr s) = [] := by
      apply List.eq_nil_iff_forall_not_mem.2
      intro x hx
      obtain ⟨h1, h2⟩ := grpF_mem.1 hx
      exact hk (kindsF_mem.2 ⟨x, h1, h2⟩)
    rw [this]
  · have hi2 : i < (kindsF o tr ys).length := by omega
    have hg : (kindsF o tr ys ++ [kindF o tr s]).getD i kz = (kindsF o tr ys).getD i kz := by
      rw [List.getD_eq_getElem?_getD, List.getElem?_append_left hi2, ← List.getD_eq_getElem?_getD]
    rw [if_neg ei, hg, if_neg (fun h => hk ?_)]
    rw [h, List.getD_eq_getElem?_getD, List.getElem?_eq_getElem hi2]
    exact List.getElem_mem _

/-- Behind the splitting by gs. -/
def CuT (gt : Nat) (W : World) (p n m gmv N : Nat) (v : Nat → Value) (l : Nat → List Int) (o wk : List Nat) (gs : List (List Nat)) (w' : World) : Prop :=
  ∃ (g' c' m' : Nat) (mi' : Nat → Nat) (v' : Nat → Value) (l' : Nat → List Int) (N' : Nat) (o' wk' : List Nat) (mem' : Nat → List Nat), PtS gt w' p (.slice (some ⟨g', 0, none⟩) m' c') m' mi' v' l' N' o' wk' mem' ∧ PtM n m' o' wk' mem' ∧ Split n (fun s => o.getD s 0) (fun s => o'.getD s 0) (· ∈ wk) (· ∈ wk') gs ∧ m ≤ m' ∧ wk'.length + m = wk.length + m' ∧ (∀ i, 2 ≤ i → i < N → v' i = v i ∧ l' i = l i) ∧ N ≤ N' ∧ Below (gt + 1) W w' ∧ KpP gmv W w' ∧ (g' = gmv ∨ W.heap.size ≤ g')

set_option maxRecDepth 100000 in
set_option maxHeartbeats 8000000 in
theorem cut_ok {gt p n m gmv cm : Nat} {mi : Nat → Nat} {v : Nat → Value} {l : Nat → List Int} {N : Nat} {o wk : List Nat} {mem : Nat → List Nat} (si : Nat) (xs : List Nat) (gT cT : Nat) (tr : Nat → Tr) (w : World) (hS : PtS gt w p (.slice (some ⟨gmv, 0, none⟩) m cm) m mi v l N o wk mem) (hP : PtM n m o wk mem) (hsi : 2 ≤ si ∧ si < N) (hls : l si = intsN xs) (hnd : xs.Nodup) (hxn : ∀ s ∈ xs, s < n) (hn4 : n ≤ 4000) (hn0 : 0 < n) (hwk : wk.length ≤ 900000)
    (hT : w.heap[gT]? = some (.cells (trRow n tr) 68 (0, 0))) :
    Calls Try.prog 35 #[.pointer (some ⟨p, 0, none⟩), v si, .slice (some ⟨gT, 0, none⟩) n cT] w fun e w' => e = .returned (.tuple #[]) ∧ CuT gt w p n m gmv N v l o wk ((List.range (kindsF o tr xs).length).map (grpJ o tr xs)) w' := by
  obtain ⟨iS, hjS, hyS0, hyS1, hyS2⟩ := info_parts Try.infoIntsD
  have hN2 := hS.two
  have hxl := nodup_le n xs hnd hxn
  obtain ⟨⟨asl, cs⟩, es⟩ := owns_formD (hS.fam.own si hsi.2)
  rw [hls, intsN_len] at es
  obtain ⟨go, co, eo, hgo⟩ := hS.fam.nats (i := 0) (by omega) hS.l0 (by rw [hP.ln]; omega)
  rw [hP.ln] at eo
  have HS : Hid _ := hS
  have HP : Hid _ := hP
  have Hes : Hid _ := es
  have Heo : Hid _ := eo
  have hpl := row_lt hS.box
  have hgm := own_lt hS.out
  obtain ⟨W1, hW1⟩ : ∃ W1, (w.alloc (.map #[] 0)).alloc (.cells #[] 22) = W1 := ⟨_, rfl⟩
  have hb1 : Below w.heap.size w W1 := by rw [← hW1]; exact ((Below.refl _ _).alloc (Nat.le_refl _) _).alloc (by simp) _
  have HC1 : Hid (CuG gt w p m gmv cm mi v l N o wk mem w.heap.size (kindsF o tr []) (grpJ o tr []) (w.heap.size + 1) 0 v l W1) := by
    refine ⟨hS.on hb1, ?_, ?_, by omega, Nat.le_refl _, hgm, hS.size, hN2, fun x hx => (hS.idx x hx).2, fun _ _ => ⟨rfl, rfl⟩, fun j h => absurd h (Nat.not_lt_zero _), (PrK.refl gt gmv w).on hS.size hb1⟩
    · rw [← hW1]
      exact (Below.heap_alloc _ _ _ (by simp)).trans (heap_alloc_new w _)
    · have h2 := ownsRow_new (w.alloc (.map #[] 0)) 22
      have e : (w.alloc (.map #[] 0)).heap.size = w.heap.size + 1 := by simp
      rw [e, hW1] at h2
      exact own_monoN h2 (by have := hS.size; omega)
  have hgT : gT ≠ gmv := fun e => by
    obtain ⟨cur, hc⟩ := own_slices hS.out
    rw [e, hc] at hT
    exact absurd (cells_typeM hT) (by decide)
  have HT : Hid (∀ W, PrK gt gmv w W → W.heap[gT]? = some (.cells (trRow n tr) 68 (0, 0))) := fun W k => k.kp gT _ _ (by decide) (by decide) hgT hT
  have hmm := @run_makeMap Try.prog
  rw [es]
  have Hls : Hid _ := hls
  clear es eo hb1 hS hP hT hls hgo
  go_enter Try.func35, Try.ntmps35
  go_wp2
  clear hW1
  go_loopw [7, 19] (fun gv i wr => ∃ (k g c : Nat) (v' : Nat → Value) (l' : Nat → List Int), k ≤ xs.length ∧ i = .int .i64 k ∧ gv = .slice (some ⟨g, 0, none⟩) (kindsF o tr (xs.take k)).length c ∧ Hid (CuG gt w p m gmv cm mi v l N o wk mem w.heap.size (kindsF o tr (xs.take k)) (grpJ o tr (xs.take k)) g c v' l' wr))
    (fun _ i _ => xs.length - (intOf i).toNat)
  case atStart => exact ⟨0, _, _, v, l, Nat.zero_le _, rfl, rfl, HC1.out⟩
  case round =>
    clear HC1
    obtain ⟨k, g, c, v', l', hk, rfl, rfl, HC⟩ := hrel
    by_cases hk2 : k < xs.length
    · obtain ⟨gs, cs', e1, hcs⟩ := HC.out.pt.fam.nats (i := si) (by omega) ((HC.out.old si hsi.2).2.trans Hls.out) (by omega)
      rw [(HC.out.old si hsi.2).1, Hes.out] at e1
      cases e1
      have c0 := hcs k hk2
      have hsn := hxn _ (getD_mem hk2)
      obtain ⟨t0, t1, t2, t3, t4⟩ := tr_cells (HT.out wr HC.out.kept) hsn
      have hom := HP.out.lt _ hsn
      have hmn := HP.out.le
      have Hold : Hid _ := @grpJ_old o tr (xs.take k) (xs.getD k 0)
      have Hnew : Hid _ := @grpJ_new o tr (xs.take k) (xs.getD k 0)
      have hgl : ∀ j, (grpJ o tr (xs.take k) j).length ≤ 4000 := fun j => by
        have := grpF_le o tr (xs.take k) ((kindsF o tr (xs.take k)).getD j kz)
        have h2 : (xs.take k).length ≤ k := by rw [List.length_take]; omega
        unfold grpJ
        omega
      have hkl : (kindsF o tr (xs.take k)).length ≤ 4000 := by
        have : ∀ ys : List Nat, (kindsF o tr ys).length ≤ ys.length := fun ys => kindsF_len o tr ys
        have h1 := this (xs.take k)
        rw [List.length_take] at h1
        omega
      have Htk : Hid _ := take_snocN hk2
      have hi1 : (k : Int) < (xs.length : Int) := by omega
      have hi2 : ((xs.getD k 0 : Nat) : Int) < (n : Int) := by omega
      have Hkd : Hid (kindF o tr (xs.getD k 0) = (o.getD (xs.getD k 0) 0, (tr (xs.getD k 0)).2)) := rfl
      obtain ⟨W2, hW2⟩ : ∃ W2, wr.alloc (.cells (trC (tr (xs.getD k 0))) 68) = W2 := ⟨_, rfl⟩
      have hb2 : Below wr.heap.size wr W2 := by rw [← hW2]; exact (Below.refl _ _).alloc (Nat.le_refl _) _
      have HP2 : Hid _ := HC.out.pt.on hb2
      have hb3 := HP2.out.box
      rw [(HC.out.old 0 (by omega)).1, Heo.out] at hb3
      obtain ⟨r0, r1, r2⟩ := row_threeD hb3
      have c1 := (HP2.out.ofCell ((HC.out.old 0 (by omega)).1.trans Heo.out) HP.out.ln hsn).1
      have x2 : W2.heap[wr.heap.size]? = some (.cells (trC (tr (xs.getD k 0))) 68 (0, 0)) := by rw [← hW2]; exact heap_alloc_new _ _
      have x3 := heap_setCell_same W2 wr.heap.size 0 _ _ (.int .u64 ((o.getD (xs.getD k 0) 0 : Nat) : Int)) x2
      have f2 := frozen_of_row _ _ 0 _ _ x2
      obtain ⟨z0, z1, z2, z3, z4⟩ := row_five x2
      obtain ⟨W3, hW3⟩ : ∃ W3, W2.setCell ⟨wr.heap.size, 0, none⟩ (.int .u64 ((o.getD (xs.getD k 0) 0 : Nat) : Int)) = W3 := ⟨_, rfl⟩
      rw [hW3] at x3
      have hb13 : Below wr.heap.size wr W3 := by rw [← hW3]; exact hb2.setCell (Nat.le_refl _) _
      have HC3 : Hid _ := HC.out.on hb13
      have Hnum : Hid _ := numberT_ok w.heap.size (kindsF o tr (xs.take k)) (kindF o tr (xs.getD k 0)) W3 HC3.out.map
      unfold trC at hW2
      generalize hkd : kindF o tr (xs.getD k 0) = kd at *
      generalize hob : o.getD (xs.getD k 0) 0 = ob at *
      generalize htr : tr (xs.getD k 0) = tw at *
      generalize xs.getD k 0 = s0 at *
      have hkv : trV kd = .agg #[.int .u64 (ob : Int), .int .u64 (tw.2.1 : Int), .int .u64 (tw.2.2.1 : Int), .int .u64 (tw.2.2.2.1 : Int), .int .u64 (tw.2.2.2.2 : Int)] := by rw [Hkd.out]; rfl
      have x3' : W3.heap[wr.heap.size]? = some (.cells #[.int .u64 (ob : Int), .int .u64 (tw.2.1 : Int), .int .u64 (tw.2.2.1 : Int), .int .u64 (tw.2.2.2.1 : Int), .int .u64 (tw.2.2.2.2 : Int)] 68 (0, 0)) := x3
      obtain ⟨y0, y1, y2, y3, y4⟩ := row_five x3'
      have hnum := Hnum.out
      rw [hkv] at hnum
      clear hob htr hb3 hcs x2 x3 x3' hkv hkd Hnum
      have hi3 : IntKind.u64.wrap (ob : Int) = (ob : Int) := by
        have : (ob : Int) < 18446744073709551616 := by omega
        unfold IntKind.wrap
        simp [IntKind.signed, IntKind.bits]
        omega
      by_cases hkm : kd ∈ kindsF o tr (xs.take k)
      · have hj := idxR_lt.2 hkm
        obtain ⟨hE, hG⟩ := Hold.out hkm
        have HE : Hid _ := hE
        have HG : Hid _ := hG
        have hnum2 : Calls Try.prog 37 #[.map (some w.heap.size), .agg #[.int .u64 (ob : Int), .int .u64 (tw.2.1 : Int), .int .u64 (tw.2.2.1 : Int), .int .u64 (tw.2.2.2.1 : Int), .int .u64 (tw.2.2.2.2 : Int)]] W3 fun e w' => e = .returned (.tuple #[.int .i64 (idxR (kindsF o tr (xs.take k)) kd : Int), .bool false]) ∧ w'.heap[w.heap.size]? = some (.map (regE trV (kindsF o tr (xs.take k))) (kindsF o tr (xs.take k)).length) ∧ W3.grownBy w' (some w.heap.size) := by
          refine Calls.mono hnum ?_
          rintro e w' ⟨a, b, d⟩
          unfold addR at b
          rw [if_pos hkm] at b
          exact ⟨by rw [a]; simp [hkm], b, d⟩
        clear hE hG hnum Hold Hnew
        generalize idxR (kindsF o tr (xs.take k)) kd = j at *
        go_wp2_with fail
        refine hnum2.mono ?_
        rintro e w4 ⟨rfl, hm4, hg4⟩
        have HC4 : Hid _ := HC3.out.num hg4 hm4
        have o4 := HC4.out.out.cellAt j (by omega)
        rw [gvL_get _ _ hj] at o4
        obtain ⟨⟨aj, pj⟩, ej⟩ := owns_formD (HC4.out.pt.fam.own (N + j) (by omega))
        rw [HC4.out.grp j hj, intsN_len] at ej
        rw [ej] at o4
        have Hej : Hid _ := ej
        have hs4 := HC4.out.pt.size
        have hgj := hgl j
        have hji : (j : Int) < ((kindsF o tr (xs.take k)).length : Int) := by omega
        clear ej hnum2 hm4 hg4 HC3 hgl r0 r1 r2 c1 z0 z1 z2 z3 z4 y0 y1 y2 y3 y4 f2 hW2 hW3 hb2 hb13 HP2 t0 t1 t2 t3 t4 c0
        generalize hKl : kindsF o tr (xs.take k) = KK at *
        generalize hGl : grpJ o tr (xs.take k) = GG at *
        go_wp2_with (at_builtin; refine wpList_fam HC4.out.pt.fam _ rfl rfl (.tmp 51) (.tmp 53) rfl (N + j) (by omega) (intsN (GG j)) (HC4.out.grp j hj) (GG j).length (intsN_len _) (by exact Hej.out.symm) (s0 : Int) rfl (by omega) hs4 ?_; intro g5 c5 w5 hF5 hg5; obtain ⟨b1, b2, HC5'⟩ := HC4.out.app hj hF5 hg5; rw [Hej.out] at b1; have HC5 : Hid _ := HC5'; clear HC5' hF5 hg5)
        go_roundw
        case rel =>
          have hfin := HC5.out.congr HE.out.symm HG.out
          rw [← Htk.out] at hfin
          exact ⟨k + 1, g, c, _, _, by omega, by go_num, by rw [Htk.out, HE.out], hfin⟩
        case measure => simp [intOf]; omega
      · have hE := (Hnew.out hkm).1
        have HE : Hid _ := hE
        have HG : Hid _ := (Hnew.out hkm).2
        have hnum2 : Calls Try.prog 37 #[.map (some w.heap.size), .agg #[.int .u64 (ob : Int), .int .u64 (tw.2.1 : Int), .int .u64 (tw.2.2.1 : Int), .int .u64 (tw.2.2.2.1 : Int), .int .u64 (tw.2.2.2.2 : Int)]] W3 fun e w' => e = .returned (.tuple #[.int .i64 ((kindsF o tr (xs.take k)).length : Int), .bool true]) ∧ w'.heap[w.heap.size]? = some (.map (regE trV (kindsF o tr (xs.take k) ++ [kd])) (kindsF o tr (xs.take k) ++ [kd]).length) ∧ W3.grownBy w' (some w.heap.size) := by
          refine Calls.mono hnum ?_
          rintro e w' ⟨a, b, d⟩
          unfold addR at b
          rw [if_neg hkm] at b
          exact ⟨by rw [a, idxR_new hkm]; simp [hkm], b, d⟩
        clear hE hnum Hold Hnew
        go_wp2_with fail
        refine hnum2.mono ?_
        rintro e w4 ⟨rfl, hm4, hg4⟩
        have Hfar : Hid _ := HC3.out.far hg4
        have hs4 := Hfar.out.1.size
        have hs34 : w.heap.size ≤ w4.heap.size := Nat.le_trans HC3.out.kept.below.size hg4.size
        clear hnum2 hgl r0 r1 r2 c1 z0 z1 z2 z3 z4 y0 y1 y2 y3 y4 f2 hW2 hW3 hb2 hb13 HP2 t0 t1 t2 t3 t4 c0
        generalize hKl : kindsF o tr (xs.take k) = KK at *
        generalize hGl : grpJ o tr (xs.take k) = GG at *
        clear hKl hGl
        have HM4 : Hid _ := hm4
        have HG4 : Hid _ := hg4
        clear hm4 hg4
        go_wp2_with (first | (at_builtin; refine wpList_append_oneH w4 _ rfl rfl (.tmp 43) (.tmp 44) 38 rfl (gt + 1) 22 iS (.slice none 0 0) 24 Try.underlying38 hjS hyS0 hyS1 hyS2 rfl g c KK.length (gvL v' N KK.length) (.slice none 0 0) rfl Hfar.out.2.1 rfl rfl (by omega) (by omega) hs4 ?_; intro g5 c5 w5 hown5 hg5 hat5; have HC5 : Hid _ := HC3.out.more HG4.out HM4.out hown5 hg5 (hat5.imp id (fun e => by omega)); have o5 := hown5.cellAt KK.length (by omega); rw [List.getElem?_append_right (by rw [gvL_len]; exact Nat.le_refl _), gvL_len, Nat.sub_self] at o5; have o6 : w5.cell? ⟨g5, KK.length, none⟩ = some (.slice none 0 0) := o5; have hs5 := HC5.out.pt.size; clear o5 hown5 hg5 hat5) | (at_builtin; refine wpList_fam HC5.out.pt.fam _ rfl rfl (.tmp 51) (.tmp 53) rfl (N + KK.length) (by simp) [] (updL_same _ _ _) 0 rfl (by exact (upd_same _ _ _).symm) (s0 : Int) rfl (by omega) hs5 ?_; intro g6 c6 w6 hF6 hg6; have HC6 : Hid _ := HC5.out.app (j := KK.length) (s := s0) (by simp) (by simpa [intsN] using hF6) hg6; have b1 := HC6.out.1; have b2 := HC6.out.2.1; rw [upd_same] at b1; clear hF6 hg6))
        go_roundw
        case rel =>
          have hfin := HC6.out.2.2.congr (G' := grpJ o tr (xs.take k ++ [s0])) HE.out.symm (fun i hi => by
            rw [← HG.out i (by simpa using hi)]
            by_cases e : i = KK.length
            · simp [e]
            · simp [e])
          rw [← Htk.out] at hfin
          exact ⟨k + 1, g5, c5, _, _, by omega, by go_num, by rw [Htk.out, HE.out]; simp, hfin⟩
        case measure => simp [intOf]; omega
    · have hkk : k = xs.length := by omega
      subst hkk
      rw [List.take_length] at HC ⊢
      obtain ⟨W1, hW1⟩ : ∃ W1, W1 = wr := ⟨_, rfl⟩
      subst hW1
      have hkl := kindsF_len o tr xs
      have Hpos : Hid (∀ j, j < (kindsF o tr xs).length → 0 < (grpJ o tr xs j).length) := fun j hj => by
        obtain ⟨s, h1, h2⟩ := kindsF_mem.1 (show (kindsF o tr xs).getD j kz ∈ kindsF o tr xs by rw [List.getD_eq_getElem?_getD, List.getElem?_eq_getElem hj]; exact List.getElem_mem _)
        exact List.length_pos_of_mem (grpF_mem.2 ⟨h1, h2⟩)
      have Hgn : Hid (∀ j, (grpJ o tr xs j).Nodup ∧ (∀ s ∈ grpJ o tr xs j, s < n) ∧ ∀ s ∈ grpJ o tr xs j, kindF o tr s = (kindsF o tr xs).getD j kz) := fun j => ⟨List.Pairwise.filter _ hnd, fun s hs => hxn s (grpF_mem.1 hs).1, fun s hs => (grpF_mem.1 hs).2⟩
      have Hdis : Hid (∀ i j, i < (kindsF o tr xs).length → j < (kindsF o tr xs).length → i ≠ j → ∀ s, s ∈ grpJ o tr xs i → s ∉ grpJ o tr xs j) := fun i j hi hj hne s h1 h2 => hne (nodup_getD (kindsF_nodup o tr xs) hi hj ((grpF_mem.1 h1).2.symm.trans (grpF_mem.1 h2).2))
      have Hone : Hid (∀ j s t, s ∈ grpJ o tr xs j → t ∈ grpJ o tr xs j → o.getD s 0 = o.getD t 0) := fun j s t hs ht => by
        have e := (grpF_mem.1 hs).2.trans (grpF_mem.1 ht).2.symm
        exact congrArg Prod.fst e
      generalize hK : kindsF o tr xs = K at *
      generalize hG : grpJ o tr xs = G at *
      have HKe : Hid _ := hK
      have HGe : Hid _ := hG
      have Hout : Hid (∀ W, KpP gmv W1 W → ∀ j, j < K.length → W.cell? ⟨g, j, none⟩ = some (v' (N + j))) := fun W kp j hj => by
        obtain ⟨cur, hc⟩ := own_slices HC.out.out
        have hc2 := kp g cur _ (by decide) (by decide) (by have := HC.out.new; have := HC.out.gl; omega) hc
        have := HC.out.out.cellAt j (by omega)
        rw [gvL_get _ _ hj] at this
        rw [← this]
        exact World.cell?_of_block (hc2.trans hc.symm)
      clear hK hG
      go_wp2
      go_loopw [59] (fun i wr => ∃ (j : Nat), j ≤ K.length ∧ i = .int .i64 j ∧ Hid (CuT gt W1 p n m gmv (N + K.length) v' l' o wk ((List.range j).map G) wr))
        (fun i _ => K.length - (intOf i).toNat)
      case atStart => exact ⟨0, Nat.zero_le _, rfl, gmv, cm, m, mi, v', l', _, o, wk, mem, HC.out.pt, HP.out, Split.refl _ _ _, Nat.le_refl _, rfl, fun _ _ _ => ⟨rfl, rfl⟩, Nat.le_refl _, Below.refl _ _, KpP.refl _ _, .inl rfl⟩
      case round =>
        obtain ⟨j, hj, rfl, HX⟩ := hrel
        by_cases hj2 : j < K.length
        · obtain ⟨g', c', m', mi', v2, l2, N2, o2, wk2, mem2, HX1, HX2, HX3, HX4, HX5, HX6, HX7, HX8, HX9, HX10⟩ := HX.out
          have c0 := Hout.out wr HX9 j hj2
          have hN1 := HC.out.pt.two
          have hlj : l2 (N + j) = intsN (G j) := by rw [(HX6 (N + j) (by omega) (by omega)).2]; exact HC.out.grp j hj2
          have hvj := (HX6 (N + j) (by omega) (by omega)).1
          have hp0 := Hpos.out j hj2
          obtain ⟨hn1, hn2, hn3⟩ := Hgn.out j
          have hsame : ∀ s ∈ G j, s ∈ mem2 (o2.getD ((G j).getD 0 0) 0) := fun s hs => by
            have ht := getD_mem hp0
            have e := HX3.same (hn2 s hs) (hn2 _ ht) (Hone.out j s _ hs ht) (fun gg hgg => by
              obtain ⟨i, hi, rfl⟩ := List.mem_map.1 hgg
              have hij : i < j := by simpa using hi
              exact ⟨fun h => absurd hs (Hdis.out i j (by omega) hj2 (by omega) s h), fun h => absurd ht (Hdis.out i j (by omega) hj2 (by omega) _ h)⟩)
            exact (HX2.mm _ (HX2.lt _ (hn2 _ ht)) s).2 ⟨hn2 s hs, e⟩
          have hmn2 := HX2.le
          have hsp := split_ok (N + j) (G j) wr HX1 HX2 ⟨by omega, by omega⟩ hlj hn1 hp0 hn4 (by omega) hsame hn2
          obtain ⟨⟨aj, pj⟩, ej⟩ := owns_formD (HX1.fam.own (N + j) (by omega))
          rw [hvj] at hsp ej
          rw [ej] at hsp c0
          have H3 : Hid _ := HX3
          have H45 : Hid (m ≤ m' ∧ wk2.length + m = wk.length + m') := ⟨HX4, HX5⟩
          have H6 : Hid _ := HX6
          have H789 : Hid (N + K.length ≤ N2 ∧ Below (gt + 1) W1 wr ∧ KpP gmv W1 wr ∧ (g' = gmv ∨ W1.heap.size ≤ g')) := ⟨HX7, HX8, HX9, HX10⟩
          clear ej HX1 HX2 HX3 HX4 HX5 HX6 HX7 HX8 HX9 HX10 hsame hlj hvj hn1 hn2 hn3 HX
          have hji : (j : Int) < (K.length : Int) := by omega
          generalize (l2 (N + j)).length = lj at *
          go_wp2_with fail
          refine hsp.mono ?_
          rintro e w4 ⟨rfl, g3, c3, m3, mi3, v3, l3, N3, o3, wk3, mem3, Y1, Y2, Y3, Y4, Y5, Y6, Y7, Y8⟩
          have HY : Hid (CuT gt W1 p n m gmv (N + K.length) v' l' o wk ((List.range (j + 1)).map G) w4) := by
            obtain ⟨a1, a2, a3, a4⟩ := H789.out
            refine ⟨g3, c3, m3, mi3, v3, l3, N3, o3, wk3, mem3, Y1, Y2, ?_, Nat.le_trans H45.out.1 Y3.le, by have := H45.out.2; have := Y3.wl; omega, fun i h2 hi => ?_, by omega, a2.trans Y6, a3.chain a4 Y7, ?_⟩
            · rw [List.range_succ, List.map_append]
              exact H3.out.next Y3.iff Y3.num Y3.up
            · have b1 := Y5 i h2 (by omega)
              have b2 := H6.out i h2 hi
              exact ⟨b1.1.trans b2.1, b1.2.trans b2.2⟩
            · have := a2.size
              rcases Y8 with k1 | k1
              · rw [k1]; exact a4
              · exact .inr (by omega)
          clear Y1 Y2 Y3 Y4 Y5 Y6 Y7 Y8 hsp
          go_wp2
          go_roundw
          case rel => exact ⟨j + 1, by omega, by go_num, HY.out⟩
          case measure => simp [intOf]; omega
        · have hjj : j = K.length := by omega
          subst hjj
          go_wp2
          go_end0
          obtain ⟨g', c', m', mi', v2, l2, N2, o2, wk2, mem2, HX1, HX2, HX3, HX4, HX5, HX6, HX7, HX8, HX9, HX10⟩ := HX.out
          have hsz := HC.out.kept.below.size
          exact ⟨rfl, g', c', m', mi', v2, l2, N2, o2, wk2, mem2, HX1, HX2, by rw [HKe.out, HGe.out]; exact HX3, HX4, HX5, fun i h2 hi => ⟨(HX6 i h2 (by omega)).1.trans (HC.out.old i hi).1, (HX6 i h2 (by omega)).2.trans (HC.out.old i hi).2⟩, by omega, HC.out.kept.below.trans HX8, HC.out.kept.kp.trans HX9, HX10.imp id (fun h => by omega)⟩
end Go.Proofs.Ytgbdlgogccgciaa
