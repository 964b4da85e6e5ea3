import Derived.Test.YtplhghhfdabccaaDoorPackG
import Derived.Test.YtplhghhfdabccaaDoorStep
import Derived.Test.YtplhghhfdabccaaDoorRun
namespace Go.Proofs.YtplhghhfdabccaaDoor
open Go.RowKit
attribute [local go_sem ↓] Go.wp_at_zero Go.wp_at_succ

def boolOf : Value → Bool
  | .bool b => b
  | _ => false
def lenAt (w : World) (a : Addr) : Nat :=
  match w.cell? a with
  | some (.slice _ n _) => n
  | _ => 0
theorem PkSt.lenAt {w W : World} {D : Array Value} {gt : Nat} {width : Int} {v : Nat → Value} {l : Nat → List Int} (S : PkSt w D gt width W v l) : Go.Proofs.YtplhghhfdabccaaDoor.lenAt W ⟨gt, 7, none⟩ = (l 6).length := by
  obtain ⟨⟨ca, ccp⟩, hv⟩ := owns_form (S.fam.own 6 (by omega))
  unfold Go.Proofs.YtplhghhfdabccaaDoor.lenAt
  rw [(row_A S.row).2.2.2.2.2.2.2, hv]
/- WHAT Pack ANSWERS. -/
def packN (d : DfaD) : Option Lay := layN d.next d.width.toNat d.tag.length
def packC (d : DfaD) : Int := if dfaB d = false then 1 else if packN d = none then 2 else 0
def packW (d : DfaD) : Int := if packC d = 0 then d.width else 0
def packLs (d : DfaD) : Nat → List Int := if packC d = 0 then pkL d.classes d.tag d.fin ((packN d).getD ⟨[], [], [], []⟩) [] else fun _ => []
theorem pack_bad {d : DfaD} {c : Int} (h : packC d = c) (hc : ¬c = 0) : packW d = 0 ∧ packLs d = fun _ => [] := by
  unfold packW packLs
  rw [h, if_neg hc, if_neg hc]
  exact ⟨rfl, rfl⟩
theorem pack_good {d : DfaD} {L : Lay} (h0 : dfaB d = true) (h : packN d = some L) : packC d = 0 ∧ packW d = d.width ∧ packLs d = pkL d.classes d.tag d.fin L [] := by
  have e : packC d = 0 := by unfold packC; rw [if_neg (by simp [h0]), if_neg (by simp [h])]
  refine ⟨e, by unfold packW; rw [if_pos e], by unfold packLs; rw [if_pos e, h]; rfl⟩
theorem layN_stop {nx : List Int} {wd s : Nat} (h : layN nx wd (s + 1) = none) : ∀ n, s < n → layN nx wd n = none
  | 0, hn => by omega
  | n + 1, hn => by
    by_cases e : n = s
    · subst e; exact h
    · have := layN_stop h n (by omega)
      show (layN nx wd n).bind _ = none
      rw [this]; rfl
theorem Fam.take {gt n m : Nat} {W : World} {v : Nat → Value} {l : Nat → List Int} (h : Fam gt n W v l) (hm : m ≤ n) : Fam gt m W v l :=
  ⟨fun i hi => h.own i (by omega), fun i j hi hj => h.apart i j (by omega) (by omega)⟩
theorem Fam.congr {gt n : Nat} {W : World} {v : Nat → Value} {l l' : Nat → List Int} (h : Fam gt n W v l) (he : ∀ i, i < n → l i = l' i) : Fam gt n W v l' :=
  ⟨fun i hi => by rw [← he i hi]; exact h.own i hi, h.apart⟩

set_option maxRecDepth 100000 in
set_option maxHeartbeats 4000000 in
theorem specPack_bad {lo : Nat} (cv nv tv ev : Value) (d : DfaD) (w : World) (hs : DfaAt lo w cv nv tv ev d) (hB : dfaB d = false) :
    Calls Tryd.prog 5 #[.agg #[cv, .int .i64 d.width, nv, tv, ev]] w fun e w' => LoadAns w 0 1 (fun _ => []) e w' := by
  have hb0 : Below w.heap.size w ((w.alloc (.cells #[cv, .int .i64 d.width, nv, tv, ev] 30)).alloc (.cells zeroA 27)) := ((Below.refl _ _).alloc (Nat.le_refl _) _).alloc (by simp) _
  have r0 : ((w.alloc (.cells #[cv, .int .i64 d.width, nv, tv, ev] 30)).alloc (.cells zeroA 27)).heap[w.heap.size + 1]? = some (.cells zeroA 27 (0, 0)) := by
    have := heap_alloc_new (w.alloc (.cells #[cv, .int .i64 d.width, nv, tv, ev] 30)) (.cells zeroA 27)
    simpa using this
  have hT := specDfaOK_ok cv nv tv ev d _ (hs.below hb0)
  rw [hB] at hT
  go_enter Tryd.func5, Tryd.ntmps5
  go_wp2_with fail
  refine hT.mono ?_
  rintro e w1 ⟨rfl, hb1⟩
  have r1 := row_below r0 hb1
  have hb2 := below_step hb0 hb0.size hb1
  clear r0 hb0 hb1 hT
  have fr : ∀ o, w1.frozen? ⟨w.heap.size + 1, o, none⟩ = false := fun _ => frozen_of_row _ _ _ _ _ r1
  unfold zeroA at r1
  obtain ⟨y0, y1, y2, y3, y4, y5, y6, y7⟩ := row_eight r1
  clear r1
  go_wp2
  refine bodyPost_ret (v := .tuple #[.agg #[.slice none 0 0, .int .i64 0, .slice none 0 0, .slice none 0 0, .slice none 0 0, .slice none 0 0, .slice none 0 0, .slice none 0 0], .int .i64 1]) (by simp [results, Tryd.results5, go_sem, y0, y1, y2, y3, y4, y5, y6, y7]) rfl ?_
  have h8 := below_set8 hb2 (show w.heap.size ≤ w.heap.size + 1 by omega) (.slice none 0 0) (.int .i64 0) (.slice none 0 0) (.slice none 0 0) (.slice none 0 0) (.slice none 0 0) (.slice none 0 0) (.slice none 0 0)
  exact ⟨w.heap.size, fun _ => .slice none 0 0, rfl, Nat.le_refl _, Fam.nil _ _ _, h8⟩

theorem rowF_get {nx : List Int} {wd s j : Nat} (hj : j < wd) : (rowF nx wd s).getD j 0 = nx.getD (s * wd + j) 0 := by
  unfold rowF
  simp [List.getD, hj]
theorem rowF_len {nx : List Int} {wd s n : Nat} (hl : nx.length = n * wd) (hs : s < n) : (rowF nx wd s).length = wd := by
  unfold rowF
  rw [List.length_take, List.length_drop, hl]
  have h1 : s * wd + wd ≤ n * wd := by
    have := Nat.mul_le_mul_right wd (show s + 1 ≤ n by omega)
    rw [Nat.succ_mul] at this
    exact this
  omega
def oddI (row : List Int) (dv : Int) (k : Nat) : List Int := (oddF row dv k).map fun c : Nat => (c : Int)
theorem oddI_len (row : List Int) (dv : Int) (k : Nat) : (oddI row dv k).length = (oddF row dv k).length := by simp [oddI]
theorem oddF_len (row : List Int) (dv : Int) (k : Nat) : (oddF row dv k).length ≤ k := by
  have := List.length_filter_le (fun c => row.getD c 0 != dv) (List.range k)
  simpa [oddF] using this
theorem oddI_yes {row : List Int} {dv : Int} {k : Nat} (h : ¬row.getD k 0 = dv) : oddI row dv (k + 1) = oddI row dv k ++ [(k : Int)] := by
  unfold oddI; rw [oddF_succ, if_pos (by simpa using h)]; simp
theorem oddI_no {row : List Int} {dv : Int} {k : Nat} (h : row.getD k 0 = dv) : oddI row dv (k + 1) = oddI row dv k := by
  unfold oddI; rw [oddF_succ, if_neg (by simpa using h)]; simp

set_option maxRecDepth 100000 in
set_option maxHeartbeats 8000000 in
theorem specPack_t {lo : Nat} (cv nv tv ev : Value) (d : DfaD) (wd : Nat) (w : World) (hs : DfaAt lo w cv nv tv ev d) (hwd : d.width = wd) (hcap : ∃ ao cap, nv = .slice ao d.next.length cap ∧ d.next.length ≤ cap) (hB : dfaB d = true) :
    Calls Tryd.prog 5 #[.agg #[cv, .int .i64 d.width, nv, tv, ev]] w fun e w' => LoadAns w (packW d) (packC d) (packLs d) e w' := by
  have hf := dfaB_fine hB
  have Hwd : Hid (d.width = wd) := hwd
  have hb0 : Below w.heap.size w ((w.alloc (.cells #[cv, .int .i64 d.width, nv, tv, ev] 30)).alloc (.cells zeroA 27)) := ((Below.refl _ _).alloc (Nat.le_refl _) _).alloc (by simp) _
  have r0 : ((w.alloc (.cells #[cv, .int .i64 d.width, nv, tv, ev] 30)).alloc (.cells zeroA 27)).heap[w.heap.size + 1]? = some (.cells zeroA 27 (0, 0)) := by
    have := heap_alloc_new (w.alloc (.cells #[cv, .int .i64 d.width, nv, tv, ev] 30)) (.cells zeroA 27)
    simpa using this
  have q0 : ((w.alloc (.cells #[cv, .int .i64 d.width, nv, tv, ev] 30)).alloc (.cells zeroA 27)).heap[w.heap.size]? = some (.cells #[cv, .int .i64 d.width, nv, tv, ev] 30 (0, 0)) := row_alloc (heap_alloc_new _ _)
  have hT := specDfaOK_ok cv nv tv ev d _ (hs.below hb0)
  rw [hB] at hT
  have hn1 := hf.n1; have hn2 := hf.n2; have hw1 := hf.w1; have hw2 := hf.w2
  rw [hwd] at hw1 hw2 hT q0 r0 hb0 ⊢
  have hc1 : 0 < d.classes.length ∧ d.classes.length ≤ 256 := by have := hf.cl; omega
  have hf1 : 0 < d.fin.length ∧ d.fin.length ≤ 4000 := by have := hf.fl; omega
  have ht1 : 0 < d.tag.length := by omega
  have hnl0 : d.next.length = d.tag.length * wd := by
    have := hf.nl
    rw [hwd] at this
    exact Int.ofNat.inj this
  have hnx : 0 < d.next.length := by rw [hnl0]; exact Nat.mul_pos ht1 (by omega)
  have HNl : Hid (d.next.length = d.tag.length * wd) := hnl0
  clear hnl0 hwd
  obtain ⟨⟨a0, p0, rfl, m0, y0⟩, ⟨na, np, rfl, nm, ny⟩, ⟨ta, tp, rfl, tm, ty⟩, ⟨ea, ep, rfl, em, ey⟩⟩ := hs
  obtain ⟨na', np', he, hcap⟩ := hcap
  cases he
  obtain ⟨cb, co, rfl, _, cl, cq⟩ := y0 hc1.1
  obtain ⟨nb, no, rfl, _, nl, nq⟩ := ny hnx
  obtain ⟨tb, tq, rfl, _, tl, tqq⟩ := ty ht1
  obtain ⟨eb, eq, rfl, _, el, eqq⟩ := ey hf1.1
  have Cq : Hid (∀ i, i < d.classes.length → w.cell? ⟨cb, co + i, none⟩ = some (.int .i64 (d.classes.getD i 0))) := cq
  have Nq : Hid (∀ i, i < d.next.length → w.cell? ⟨nb, no + i, none⟩ = some (.int .i64 (d.next.getD i 0))) := nq
  have Tq : Hid (∀ i, i < d.tag.length → w.cell? ⟨tb, tq + i, none⟩ = some (.int .i64 (d.tag.getD i 0))) := tqq
  have Eq : Hid (∀ i, i < d.fin.length → w.cell? ⟨eb, eq + i, none⟩ = some (.int .i64 (d.fin.getD i 0))) := eqq
  clear cq tqq eqq nq y0 ty ey ny hnx
  go_enter Tryd.func5, Tryd.ntmps5
  go_wp2_with fail
  refine hT.mono ?_
  rintro e w1 ⟨rfl, hb1⟩
  have r1 := row_below r0 hb1
  have q1 := row_below q0 hb1
  have hb2 := below_step hb0 hb0.size hb1
  clear r0 hb0 hb1 hT q0
  obtain ⟨x0, x1, x2, x3, x4⟩ := row_five q1
  have hsz1 : w.heap.size + 1 < w1.heap.size := row_lt r1
  have S0 : PkSt w #[.slice (some ⟨cb, co, none⟩) d.classes.length p0, .int .i64 wd, .slice (some ⟨nb, no, none⟩) d.next.length np, .slice (some ⟨tb, tq, none⟩) d.tag.length tp, .slice (some ⟨eb, eq, none⟩) d.fin.length ep] w1.heap.size wd (w1.alloc (.cells (rowA wd (fun _ => .slice none 0 0)) 27)) (fun _ => .slice none 0 0) (fun _ => []) :=
    ⟨hb2.alloc hb2.size _, hsz1, by simp, row_alloc q1, row_alloc r1, heap_alloc_new _ _, Fam.nil _ _ _⟩
  go_upto_region 4 with fail
  generalize hW0 : w1.alloc (.cells #[.slice none 0 0, .int .i64 wd, .slice none 0 0, .slice none 0 0, .slice none 0 0, .slice none 0 0, .slice none 0 0, .slice none 0 0] 27) = W0
  have S0' : PkSt w #[.slice (some ⟨cb, co, none⟩) d.classes.length p0, .int .i64 wd, .slice (some ⟨nb, no, none⟩) d.next.length np, .slice (some ⟨tb, tq, none⟩) d.tag.length tp, .slice (some ⟨eb, eq, none⟩) d.fin.length ep] w1.heap.size wd W0 (fun _ => .slice none 0 0) (fun _ => []) := by rw [← hW0]; exact S0
  clear S0 hW0 x0 x1 x2 x3 x4 r1 q1 hb2
  generalize w1.heap.size = gt at *
  have hov : w.heap.size < gt := by have := S0'.over; omega
  have hnov : w.heap.size ≠ gt := by omega
  go_cut [] from 24 to 41 (fun wx => ∃ v, PkSt w #[.slice (some ⟨cb, co, none⟩) d.classes.length p0, .int .i64 wd, .slice (some ⟨nb, no, none⟩) d.next.length np, .slice (some ⟨tb, tq, none⟩) d.tag.length tp, .slice (some ⟨eb, eq, none⟩) d.fin.length ep] gt wd wx v (updL (fun _ => []) 0 d.classes))
  case first =>
    obtain ⟨x0, x1, x2, x3, x4⟩ := row_five S0'.box
    obtain ⟨a0, a1, a2, a3, a4, a5, a6, a7⟩ := row_A S0'.row
    have cells : Hid (∀ j, j < d.classes.length → W0.cell? ⟨cb, co + j, none⟩ = some (.int .i64 (d.classes.getD j 0))) := fun j hj => (S0'.below.cell (by exact cl)).trans (Cq.out j hj)
    go_wp2_with (refine wpList_pk_all S0' rfl (.tmp 25) (.tmp 27) rfl 0 (by omega) 0 rfl rfl rfl d.classes cb co p0 d.classes.length rfl rfl cells.out hc1.1 (by omega) ?_; intro g1 cap1 V1 rr bb xx SN; clear a0 a1 a2 a3 a4 a5 a6 a7; obtain ⟨a0, a1, a2, a3, a4, a5, a6, a7⟩ := row_A rr; have fr0 := frozen_of_row _ _ 0 _ _ rr)
    go_meet
    exact ⟨_, SN⟩
  case rest =>
    obtain ⟨v1, S1⟩ := hcut
    clear S0'
    go_upto_region 5 with fail
    go_cut [] from 24 to 41 (fun wx => ∃ v, PkSt w #[.slice (some ⟨cb, co, none⟩) d.classes.length p0, .int .i64 wd, .slice (some ⟨nb, no, none⟩) d.next.length np, .slice (some ⟨tb, tq, none⟩) d.tag.length tp, .slice (some ⟨eb, eq, none⟩) d.fin.length ep] gt wd wx v (updL (updL (fun _ => []) 0 d.classes) 3 d.tag))
    case first =>
      obtain ⟨x0, x1, x2, x3, x4⟩ := row_five S1.box
      obtain ⟨a0, a1, a2, a3, a4, a5, a6, a7⟩ := row_A S1.row
      have cells : Hid (∀ j, j < d.tag.length → wc.cell? ⟨tb, tq + j, none⟩ = some (.int .i64 (d.tag.getD j 0))) := fun j hj => (S1.below.cell (by exact tl)).trans (Tq.out j hj)
      go_wp2_with (refine wpList_pk_all S1 rfl (.tmp 31) (.tmp 33) rfl 3 (by omega) 4 rfl rfl rfl d.tag tb tq tp d.tag.length rfl rfl cells.out ht1 (by omega) ?_; intro g1 cap1 V1 rr bb xx SN; clear a0 a1 a2 a3 a4 a5 a6 a7; obtain ⟨a0, a1, a2, a3, a4, a5, a6, a7⟩ := row_A rr; have fr0 := frozen_of_row _ _ 4 _ _ rr)
      go_meet
      exact ⟨_, SN⟩
    case rest =>
      obtain ⟨v2, S2⟩ := hcut
      clear S1
      go_upto_region 6 with fail
      go_cut [] from 24 to 41 (fun wx => ∃ v, PkSt w #[.slice (some ⟨cb, co, none⟩) d.classes.length p0, .int .i64 wd, .slice (some ⟨nb, no, none⟩) d.next.length np, .slice (some ⟨tb, tq, none⟩) d.tag.length tp, .slice (some ⟨eb, eq, none⟩) d.fin.length ep] gt wd wx v (pkL d.classes d.tag d.fin ⟨[], [], [], []⟩ []))
      case first =>
        obtain ⟨x0, x1, x2, x3, x4⟩ := row_five S2.box
        obtain ⟨a0, a1, a2, a3, a4, a5, a6, a7⟩ := row_A S2.row
        have cells : Hid (∀ j, j < d.fin.length → wc.cell? ⟨eb, eq + j, none⟩ = some (.int .i64 (d.fin.getD j 0))) := fun j hj => (S2.below.cell (by exact el)).trans (Eq.out j hj)
        go_wp2_with (refine wpList_pk_all S2 rfl (.tmp 37) (.tmp 39) rfl 4 (by omega) 5 rfl rfl rfl d.fin eb eq ep d.fin.length rfl rfl cells.out hf1.1 (by omega) ?_; intro g1 cap1 V1 rr bb xx SN; clear a0 a1 a2 a3 a4 a5 a6 a7; obtain ⟨a0, a1, a2, a3, a4, a5, a6, a7⟩ := row_A rr; have fr0 := frozen_of_row _ _ 5 _ _ rr)
        rw [pkL_start] at SN
        go_meet
        exact ⟨_, SN⟩
      case rest =>
        obtain ⟨v3, S3⟩ := hcut
        clear S2
        obtain ⟨x0, x1, x2, x3, x4⟩ := row_five S3.box
        go_wp2
        clear x0 x1 x2 x3 x4
        go_loopw [45] (fun i wr => ∃ (k : Nat) (L : Lay) (v : Nat → Value) (odd : List Int), k ≤ d.tag.length ∧ i = .int .i64 k ∧ Hid (layN d.next wd k = some L) ∧ PkSt w #[.slice (some ⟨cb, co, none⟩) d.classes.length p0, .int .i64 wd, .slice (some ⟨nb, no, none⟩) d.next.length np, .slice (some ⟨tb, tq, none⟩) d.tag.length tp, .slice (some ⟨eb, eq, none⟩) d.fin.length ep] gt wd wr v (pkL d.classes d.tag d.fin L odd) ∧ Hid (L.next.length = L.chk.length ∧ L.base.length = k ∧ L.dflt.length = k) ∧ L.chk.length ≤ 60000 ∧ L.base.length ≤ 4000 ∧ L.dflt.length ≤ 4000)
          (fun i _ => d.tag.length - (intOf i).toNat)
        case atStart => exact ⟨0, _, _, _, by omega, rfl, rfl, S3, ⟨rfl, rfl, rfl⟩, by simp, by simp, by simp⟩
        case round =>
          clear S3
          obtain ⟨k, L, v, odd, hk, rfl, HL, S, HLen, hcm, hbl, hdl⟩ := hrel
          by_cases hlt : k < d.tag.length
          · obtain ⟨x0, x1, x2, x3, x4⟩ := row_five S.box
            have HM : Hid (k * wd + wd ≤ d.next.length) := by
              have := Nat.mul_le_mul_right wd (show k + 1 ≤ d.tag.length by omega)
              rw [Nat.succ_mul] at this
              show _ ≤ _
              rw [HNl.out]; exact this
            have hkw : k * wd ≤ 4000 * 256 := Nat.mul_le_mul (by omega) (by omega)
            have e1 : (k : Int) * (wd : Int) = ((k * wd : Nat) : Int) := by simp
            have e2 : ((k : Int) + 1) * (wd : Int) = ((k * wd + wd : Nat) : Int) := by rw [Int.add_mul]; simp
            have hM : k * wd + wd ≤ np := by have := HM.out; omega
            generalize hkm : k * wd = km at *
            have Hkm : Hid (k * wd = km) := hkm
            clear hkm
            have RowC : Hid (∀ j, j < wd → w.cell? ⟨nb, no + km + j, none⟩ = some (.int .i64 ((rowF d.next wd k).getD j 0))) := fun j hj => by
              rw [rowF_get hj, Hkm.out, Nat.add_assoc]
              exact Nq.out (km + j) (by have := HM.out; omega)
            have cD : ∀ wx, Below w.heap.size w wx → Calls Tryd.prog 15 #[.slice (some ⟨nb, no + km, none⟩) wd (np - km)] wx fun e w' => e = .returned (.int .i64 (bestF (rowF d.next wd k))) ∧ w' = wx := fun wx hb => by
              have hrl := rowF_len (s := k) HNl.out hlt
              have h := l3Default_ok (lo := 0) (.slice (some ⟨nb, no + km, none⟩) (rowF d.next wd k).length (np - km)) (rowF d.next wd k) wx ⟨_, _, rfl, by omega, fun _ => ⟨nb, no + km, rfl, Nat.zero_le _, Nat.lt_of_lt_of_le nl hb.size, fun j hj => (hb.cell (by exact nl)).trans (RowC.out j (by omega))⟩⟩ (by omega) (by omega)
              rw [hrl] at h
              exact h
            have HF : Hid (layN d.next wd (k + 1) = layF d.next wd k L) := by show (layN d.next wd k).bind _ = _; rw [HL.out]; rfl
            have e3 : km + wd - km = wd := by omega
            go_upto_region 11 with fail
            rw [e3]
            clear e3 e1 e2 hM x0 x1 x2 x3 x4
            have cDk := cD wr S.below
            have HRow : Hid (layF d.next wd k L = if oddF (rowF d.next wd k) (bestF (rowF d.next wd k)) wd = [] then some ⟨L.base ++ [0], L.dflt ++ [bestF (rowF d.next wd k)], L.next, L.chk⟩ else if (oddF (rowF d.next wd k) (bestF (rowF d.next wd k)) wd).all (fun c => decide (fitF L.chk (oddF (rowF d.next wd k) (bestF (rowF d.next wd k)) wd) + c < 60000)) then some ⟨L.base ++ [(fitF L.chk (oddF (rowF d.next wd k) (bestF (rowF d.next wd k)) wd) : Int)], L.dflt ++ [bestF (rowF d.next wd k)], layAll 0 L.next (fitF L.chk (oddF (rowF d.next wd k) (bestF (rowF d.next wd k)) wd)) (fun c => (rowF d.next wd k).getD c 0) (oddF (rowF d.next wd k) (bestF (rowF d.next wd k)) wd), layAll (-1) L.chk (fitF L.chk (oddF (rowF d.next wd k) (bestF (rowF d.next wd k)) wd)) (fun _ => (k : Int)) (oddF (rowF d.next wd k) (bestF (rowF d.next wd k)) wd)⟩ else none) := rfl
            clear cD
            generalize bestF (rowF d.next wd k) = dv at *
            generalize rowF d.next wd k = row at *
            go_upto_region 12 with (go_at_call 15; refine cDk.mono ?_; rintro e wy ⟨rfl, rfl⟩)
            clear cDk
            go_cut [] from 62 to 67 (fun wx => ∃ v', PkSt w #[.slice (some ⟨cb, co, none⟩) d.classes.length p0, .int .i64 wd, .slice (some ⟨nb, no, none⟩) d.next.length np, .slice (some ⟨tb, tq, none⟩) d.tag.length tp, .slice (some ⟨eb, eq, none⟩) d.fin.length ep] gt wd wx v' (pkL d.classes d.tag d.fin ⟨L.base, L.dflt ++ [dv], L.next, L.chk⟩ odd))
            case first =>
              obtain ⟨a0, a1, a2, a3, a4, a5, a6, a7⟩ := row_A S.row
              go_wp2_with (refine wpList_pk_one S wy.heap.size rfl rfl (.tmp 63) (.tmp 65) rfl 2 (by omega) 3 rfl L.dflt rfl L.dflt.length rfl rfl dv rfl (by omega) ?_; intro g1 cap1 V1 rr SN; clear a0 a1 a2 a3 a4 a5 a6 a7; obtain ⟨a0, a1, a2, a3, a4, a5, a6, a7⟩ := row_A rr; have fr0 := frozen_of_row _ _ 3 _ _ rr)
              rw [pkL_upd2] at SN
              go_meet
              exact ⟨_, SN⟩
            case rest =>
              obtain ⟨v', S2⟩ := hcut
              clear S
              have S4 := S2.fresh
              rw [pkL_upd7] at S4
              go_wp2
              generalize hv4 : upd v' 7 (.slice (some ⟨wc.heap.size, 0, none⟩) 0 0) = v4 at *
              have hv7 : v4 7 = .slice (some ⟨wc.heap.size, 0, none⟩) 0 0 := by rw [← hv4]; rfl
              clear S2 hv4
              go_loopw [8, 71] (fun ov i wr => ∃ (j : Nat) (v5 : Nat → Value), j ≤ wd ∧ i = .int .i64 j ∧ ov = v5 7 ∧ PkSt w #[.slice (some ⟨cb, co, none⟩) d.classes.length p0, .int .i64 wd, .slice (some ⟨nb, no, none⟩) d.next.length np, .slice (some ⟨tb, tq, none⟩) d.tag.length tp, .slice (some ⟨eb, eq, none⟩) d.fin.length ep] gt wd wr v5 (pkL d.classes d.tag d.fin ⟨L.base, L.dflt ++ [dv], L.next, L.chk⟩ (oddI row dv j)))
                (fun _ i _ => wd - (intOf i).toNat)
              case atStart => exact ⟨0, v4, by omega, rfl, hv7.symm, S4⟩
              case round =>
                clear S4 hv7
                obtain ⟨j, v5, hj, rfl, rfl, S⟩ := hrel
                by_cases hjl : j < wd
                · have c0 : wr.cell? ⟨nb, no + km + j, none⟩ = some (.int .i64 (row.getD j 0)) := (S.below.cell (by exact nl)).trans (RowC.out j hjl)
                  have HY : Hid (¬row.getD j 0 = dv → oddI row dv (j + 1) = oddI row dv j ++ [(j : Int)]) := oddI_yes
                  have HNo : Hid (row.getD j 0 = dv → oddI row dv (j + 1) = oddI row dv j) := oddI_no
                  have hol : (oddI row dv j).length ≤ 256 := by rw [oddI_len]; have := oddF_len row dv j; omega
                  have hjl' : (j : Int) < (wd : Int) := by omega
                  generalize row.getD j 0 = x at *
                  by_cases hx : x = dv
                  · have HR : Hid (oddI row dv (j + 1) = oddI row dv j) := HNo.out hx
                    have hb1 : (x != dv) = false := by simp [hx]
                    clear hx HY HNo
                    go_wp2
                    go_roundw
                    case rel => exact ⟨j + 1, v5, by omega, by go_num, rfl, by rw [HR.out]; exact S⟩
                    case measure => simp [intOf]; omega
                  · have HR : Hid (oddI row dv (j + 1) = oddI row dv j ++ [(j : Int)]) := HY.out hx
                    have hb1 : (x != dv) = true := by simp [hx]
                    clear hx HY HNo
                    go_wp2_with (refine wpList_pk_odd S wr.heap.size rfl rfl (.tmp 79) (.tmp 81) rfl (oddI row dv j) rfl (oddI row dv j).length rfl rfl (j : Int) rfl (by omega) ?_; intro g1 cap1 V1 SN)
                    rw [pkL_upd7, ← HR.out] at SN
                    go_roundw
                    case rel => exact ⟨j + 1, _, by omega, by go_num, rfl, SN⟩
                    case measure => simp [intOf]; omega
                · have hjw : j = wd := by omega
                  rw [hjw] at S
                  clear hjw
                  obtain ⟨⟨oa, ocp⟩, ho⟩ := owns_form (S.fam.own 7 (by omega))
                  have ho' : v5 7 = .slice oa (oddI row dv wd).length ocp := ho
                  rw [ho']
                  clear ho
                  by_cases hod : oddF row dv wd = []
                  · have HFs : Hid (layN d.next wd (k + 1) = some ⟨L.base ++ [0], L.dflt ++ [dv], L.next, L.chk⟩) := by show _ = _; rw [HF.out, HRow.out, if_pos hod]
                    have hol : ((oddI row dv wd).length : Int) = 0 := by rw [oddI_len, hod]; rfl
                    have hb1 : (((oddI row dv wd).length : Int) == 0) = true := by simp [hol]
                    clear hol hod HF HRow
                    obtain ⟨a0, a1, a2, a3, a4, a5, a6, a7⟩ := row_A S.row
                    go_wp2_with (refine wpList_pk_one S wr.heap.size rfl rfl (.tmp 88) (.tmp 89) rfl 1 (by omega) 2 rfl L.base rfl L.base.length rfl rfl 0 rfl (by omega) ?_; intro g1 cap1 V1 rr SN; clear a0 a1 a2 a3 a4 a5 a6 a7; obtain ⟨a0, a1, a2, a3, a4, a5, a6, a7⟩ := row_A rr; have fr0 := frozen_of_row _ _ 2 _ _ rr)
                    rw [pkL_upd1] at SN
                    go_roundw
                    case rel => exact ⟨k + 1, _, _, _, by omega, by go_num, HFs.out, SN, ⟨HLen.out.1, by simp [HLen.out.2.1], by simp [HLen.out.2.2]⟩, hcm, by have := HLen.out.2.1; simp; omega, by have := HLen.out.2.2; simp; omega⟩
                    case measure => simp [intOf]; omega
                  · have hop : 0 < (oddI row dv wd).length := by rw [oddI_len]; exact List.length_pos_iff.2 hod
                    have hol : (oddI row dv wd).length ≤ 256 := by rw [oddI_len]; have := oddF_len row dv wd; omega
                    have hb1 : (((oddI row dv wd).length : Int) == 0) = false := by rw [beq_eq_false_iff_ne]; omega
                    have HOd : Hid (¬oddF row dv wd = []) := hod
                    clear hod
                    obtain ⟨ob, cp7, e7, hog, hoc, _⟩ := S.at (i := 7) (xs := oddI row dv wd) (by omega) rfl hop (by omega)
                    rw [ho'] at e7
                    cases e7
                    have OddC : Hid (∀ i, i < (oddI row dv wd).length → wr.cell? ⟨ob, i, none⟩ = some (.int .i64 ((oddI row dv wd).getD i 0))) := hoc
                    have hchk := (S.fam.own 6 (by omega)).at (show L.chk.length ≤ 9223372036854775807 by omega)
                    have hchk' : IntsAt (gt + 1) wr (v5 6) L.chk := hchk
                    clear hoc hchk
                    obtain ⟨a0, a1, a2, a3, a4, a5, a6, a7⟩ := row_A S.row
                    go_wp2
                    go_loop [11, 12] (fun kv fv => ∃ (q : Nat) (fb : Bool), kv = .int .i64 q ∧ fv = .bool fb ∧ q ≤ L.chk.length ∧ Hid (∀ j, j < q → fitsAt L.chk (oddF row dv wd) j = false) ∧ Hid (fb = true → fitsAt L.chk (oddF row dv wd) q = true))
                      (fun kv fv => if boolOf fv then 0 else L.chk.length + 1 - (intOf kv).toNat)
                    case atStart => exact ⟨0, false, rfl, rfl, by omega, fun j hj => absurd hj (Nat.not_lt_zero _), fun h => by cases h⟩
                    case round =>
                      obtain ⟨q, fb, rfl, rfl, hq, HQ, HFb⟩ := hrel
                      cases fb
                      · clear HFb
                        go_wp2
                        go_loop [12, 96] (fun fv i => ∃ mm : Nat, mm ≤ (oddI row dv wd).length ∧ i = .int .i64 mm ∧ fv = .bool true ∧ Hid (∀ c ∈ (oddF row dv wd).take mm, freeAt L.chk (q + c) = true))
                          (fun _ i => (oddI row dv wd).length - (intOf i).toNat)
                        case atStart => exact ⟨0, by omega, rfl, rfl, fun c hc => by simp at hc⟩
                        case round =>
                          obtain ⟨mm, hmm, rfl, rfl, HA⟩ := hrel
                          by_cases hml : mm < (oddI row dv wd).length
                          · have c0 : wr.cell? ⟨ob, mm, none⟩ = some (.int .i64 ((oddI row dv wd).getD mm 0)) := OddC.out mm hml
                            have hml2 : mm < (oddF row dv wd).length := by rw [← oddI_len]; exact hml
                            obtain ⟨cc, hcc⟩ : ∃ cc : Nat, (oddF row dv wd)[mm] = cc := ⟨_, rfl⟩
                            have HCg : Hid ((oddI row dv wd).getD mm 0 = (cc : Int)) := by show _ = _; unfold oddI; simp [List.getD, hml2, hcc]
                            have hcw : cc < wd := by have : cc ∈ oddF row dv wd := by rw [← hcc]; exact List.getElem_mem _
                                                     exact oddF_lt this
                            rw [HCg.out] at c0
                            have cF := l3Free_ok (v5 6) L.chk (q + cc) ((q : Int) + (cc : Int)) wr hchk' (by simp)
                            have HT : Hid ((oddF row dv wd).take (mm + 1) = (oddF row dv wd).take mm ++ [cc]) := by show _ = _; rw [List.take_succ_eq_append_getElem hml2, hcc]
                            have HMem : Hid (cc ∈ oddF row dv wd) := by show _ ∈ _; rw [← hcc]; exact List.getElem_mem _
                            have hmli : (mm : Int) < ((oddI row dv wd).length : Int) := by omega
                            clear hcc HCg
                            cases hfr : freeAt L.chk (q + cc)
                            · rw [hfr] at cF
                              have HBad : Hid (fitsAt L.chk (oddF row dv wd) q = false) := by
                                show _ = _
                                cases hX : fitsAt L.chk (oddF row dv wd) q
                                · rfl
                                · unfold fitsAt at hX
                                  rw [List.all_eq_true] at hX
                                  have := hX cc HMem.out
                                  rw [hfr] at this
                                  exact absurd this (by simp)
                              have HLt : Hid (q < L.chk.length) := by
                                show _ < _
                                by_cases hge : q < L.chk.length
                                · exact hge
                                · have := fits_end L.chk (oddF row dv wd) (k := q) (by omega)
                                  rw [HBad.out] at this
                                  cases this
                              have HQ2 : Hid (∀ j, j < q + 1 → fitsAt L.chk (oddF row dv wd) j = false) := fun j hj => by
                                by_cases e : j = q
                                · rw [e]; exact HBad.out
                                · exact HQ.out j (by omega)
                              clear hfr
                              go_wp2_with (go_at_call 16; refine cF.mono ?_; rintro e wy ⟨rfl, rfl⟩)
                              go_round
                              case rel => exact ⟨q + 1, false, by go_num, rfl, by have := HLt.out; omega, HQ2.out, fun h => by cases h⟩
                              case measure => have := HLt.out; simp [intOf, boolOf]; omega
                            · rw [hfr] at cF
                              have HA2 : Hid (∀ c ∈ (oddF row dv wd).take (mm + 1), freeAt L.chk (q + c) = true) := fun c hc => by
                                rw [HT.out] at hc
                                rcases List.mem_append.1 hc with h1 | h1
                                · exact HA.out c h1
                                · rw [List.mem_singleton.1 h1]; exact hfr
                              clear hfr
                              go_wp2_with (go_at_call 16; refine cF.mono ?_; rintro e wy ⟨rfl, rfl⟩)
                              go_round
                              case rel => exact ⟨mm + 1, by omega, by go_num, rfl, HA2.out⟩
                              case measure => simp [intOf]; omega
                          · have HGood : Hid (fitsAt L.chk (oddF row dv wd) q = true) := by
                              show _ = _
                              unfold fitsAt
                              rw [List.all_eq_true]
                              intro c hc
                              refine HA.out c ?_
                              rw [List.take_of_length_le (by rw [← oddI_len]; omega)]
                              exact hc
                            go_wp2
                            go_round
                            case rel => exact ⟨q, true, rfl, rfl, hq, HQ.out, fun _ => HGood.out⟩
                            case measure => simp [intOf, boolOf]; omega
                      · have HFit : Hid (fitF L.chk (oddF row dv wd) = q) := fitF_eq (HFb.out rfl) HQ.out
                        clear HFb HQ
                        go_upto_region 34 with fail
                        go_cut [] from 112 to 117 (fun wx => ∃ v', Hid (v' 7 = .slice (some ⟨ob, 0, none⟩) (oddI row dv wd).length ocp) ∧ PkSt w #[.slice (some ⟨cb, co, none⟩) d.classes.length p0, .int .i64 wd, .slice (some ⟨nb, no, none⟩) d.next.length np, .slice (some ⟨tb, tq, none⟩) d.tag.length tp, .slice (some ⟨eb, eq, none⟩) d.fin.length ep] gt wd wx v' (pkL d.classes d.tag d.fin ⟨L.base ++ [(q : Int)], L.dflt ++ [dv], L.next, L.chk⟩ (oddI row dv wd)))
                        case first =>
                          go_wp2_with (refine wpList_pk_one S wr.heap.size rfl rfl (.tmp 113) (.tmp 115) rfl 1 (by omega) 2 rfl L.base rfl L.base.length rfl rfl (q : Int) rfl (by omega) ?_; intro g1 cap1 V1 rr SN; clear a0 a1 a2 a3 a4 a5 a6 a7; obtain ⟨a0, a1, a2, a3, a4, a5, a6, a7⟩ := row_A rr; have fr0 := frozen_of_row _ _ 2 _ _ rr)
                          rw [pkL_upd1] at SN
                          go_meet
                          exact ⟨upd v5 1 (.slice (some ⟨g1, 0, none⟩) (L.base.length + 1) cap1), ho', SN⟩
                        case rest =>
                          obtain ⟨v6, Hv7, S5⟩ := hcut
                          clear S a0 a1 a2 a3 a4 a5 a6 a7 OddC hchk' ho'
                          go_wp2
                          go_loopw [120] (fun i wr => ∃ (m : Nat) (v7 : Nat → Value), m ≤ (oddI row dv wd).length ∧ i = .int .i64 m ∧ Hid (v7 7 = .slice (some ⟨ob, 0, none⟩) (oddI row dv wd).length ocp) ∧ PkSt w #[.slice (some ⟨cb, co, none⟩) d.classes.length p0, .int .i64 wd, .slice (some ⟨nb, no, none⟩) d.next.length np, .slice (some ⟨tb, tq, none⟩) d.tag.length tp, .slice (some ⟨eb, eq, none⟩) d.fin.length ep] gt wd wr v7 (pkL d.classes d.tag d.fin ⟨L.base ++ [(q : Int)], L.dflt ++ [dv], layAll 0 L.next q (fun c => row.getD c 0) ((oddF row dv wd).take m), layAll (-1) L.chk q (fun _ => (k : Int)) ((oddF row dv wd).take m)⟩ (oddI row dv wd)) ∧ Hid (∀ c ∈ (oddF row dv wd).take m, q + c < 60000))
                            (fun i _ => (oddI row dv wd).length - (intOf i).toNat)
                          case atStart => exact ⟨0, v6, by omega, rfl, Hv7, S5, fun c hc => by simp at hc⟩
                          case round =>
                            clear S5 Hv7
                            obtain ⟨m, v7, hm, rfl, H7, S, HLow⟩ := hrel
                            by_cases hml : m < (oddI row dv wd).length
                            · obtain ⟨g7, cp7, e7, _, c7, _⟩ := S.at (i := 7) (xs := oddI row dv wd) (by omega) rfl hop (by omega)
                              rw [H7.out] at e7
                              cases e7
                              have c0 : wr.cell? ⟨ob, m, none⟩ = some (.int .i64 ((oddI row dv wd).getD m 0)) := c7 m hml
                              clear c7
                              have hml2 : m < (oddF row dv wd).length := by rw [← oddI_len]; exact hml
                              obtain ⟨cc, hcc⟩ : ∃ cc : Nat, (oddF row dv wd)[m] = cc := ⟨_, rfl⟩
                              have HCg : Hid ((oddI row dv wd).getD m 0 = (cc : Int)) := by show _ = _; unfold oddI; simp [List.getD, hml2, hcc]
                              have HMem : Hid (cc ∈ oddF row dv wd) := by show _ ∈ _; rw [← hcc]; exact List.getElem_mem _
                              have hcw : cc < wd := oddF_lt HMem.out
                              rw [HCg.out] at c0
                              have HT : Hid ((oddF row dv wd).take (m + 1) = (oddF row dv wd).take m ++ [cc]) := by show _ = _; rw [List.take_succ_eq_append_getElem hml2, hcc]
                              have hmli : (m : Int) < ((oddI row dv wd).length : Int) := by omega
                              clear hcc HCg
                              by_cases hbig : q + cc < 60000
                              · have hbig' : ¬60000 ≤ (q : Int) + (cc : Int) := by omega
                                have HBig : Hid (q + cc < 60000) := hbig
                                have HLow2 : Hid (∀ c ∈ (oddF row dv wd).take (m + 1), q + c < 60000) := fun c hc => by
                                  rw [HT.out] at hc
                                  rcases List.mem_append.1 hc with h1 | h1
                                  · exact HLow.out c h1
                                  · rw [List.mem_singleton.1 h1]; exact hbig
                                have HN1 : Hid (layAll 0 L.next q (fun c => row.getD c 0) ((oddF row dv wd).take (m + 1)) = layL 0 (layAll 0 L.next q (fun c => row.getD c 0) ((oddF row dv wd).take m)) (q + cc) (row.getD cc 0)) := by show _ = _; rw [HT.out, layAll_snoc]
                                have HC1 : Hid (layAll (-1) L.chk q (fun _ => (k : Int)) ((oddF row dv wd).take (m + 1)) = layL (-1) (layAll (-1) L.chk q (fun _ => (k : Int)) ((oddF row dv wd).take m)) (q + cc) (k : Int)) := by show _ = _; rw [HT.out, layAll_snoc]
                                have HNC : Hid ((layAll 0 L.next q (fun c => row.getD c 0) ((oddF row dv wd).take m)).length = (layAll (-1) L.chk q (fun _ => (k : Int)) ((oddF row dv wd).take m)).length) := layAll_lens _ _ _ _ _ _ _ _ HLen.out.1
                                have hNle : (layAll 0 L.next q (fun c => row.getD c 0) ((oddF row dv wd).take m)).length ≤ 60000 := by rw [HNC.out]; exact layAll_lt _ _ _ _ _ _ hcm HLow.out
                                have hCle : (layAll (-1) L.chk q (fun _ => (k : Int)) ((oddF row dv wd).take m)).length ≤ 60000 := layAll_lt _ _ _ _ _ _ hcm HLow.out
                                generalize layAll 0 L.next q (fun c => row.getD c 0) ((oddF row dv wd).take m) = N0 at *
                                generalize layAll (-1) L.chk q (fun _ => (k : Int)) ((oddF row dv wd).take m) = C0 at *
                                clear hbig
                                go_wp2
                                clear c0
                                go_loopw [] (fun wr => ∃ (n : Nat) (v8 : Nat → Value), C0.length ≤ n ∧ n ≤ max C0.length (q + cc + 1) ∧ Hid (v8 7 = .slice (some ⟨ob, 0, none⟩) (oddI row dv wd).length ocp) ∧ PkSt w #[.slice (some ⟨cb, co, none⟩) d.classes.length p0, .int .i64 wd, .slice (some ⟨nb, no, none⟩) d.next.length np, .slice (some ⟨tb, tq, none⟩) d.tag.length tp, .slice (some ⟨eb, eq, none⟩) d.fin.length ep] gt wd wr v8 (pkL d.classes d.tag d.fin ⟨L.base ++ [(q : Int)], L.dflt ++ [dv], longL 0 n N0, longL (-1) n C0⟩ (oddI row dv wd)))
                                  (fun wr => q + cc + 1 - lenAt wr ⟨gt, 7, none⟩)
                                case atStart => exact ⟨C0.length, v7, Nat.le_refl _, by omega, H7, by rw [longL_self (Nat.le_refl _), longL_self (by rw [HNC.out]; exact Nat.le_refl _)]; exact S⟩
                                case round =>
                                  clear S H7
                                  obtain ⟨n, v8, hn1', hn2', H8, S⟩ := hrel
                                  have hll : (longL (-1) n C0).length = n := by rw [longL_len]; omega
                                  obtain ⟨⟨ca, ccp⟩, hv6⟩ := owns_form (S.fam.own 6 (by omega))
                                  have hv6' : v8 6 = .slice ca n ccp := by rw [hv6]; show Value.slice ca (longL (-1) n C0).length ccp = _; rw [hll]
                                  have HLA : Hid (lenAt wr ⟨gt, 7, none⟩ = n) := by show _ = _; unfold lenAt; rw [(row_A S.row).2.2.2.2.2.2.2, hv6']
                                  clear hv6 hll
                                  obtain ⟨a0, a1, a2, a3, a4, a5, a6, a7⟩ := row_A S.row
                                  have a7' := a7
                                  rw [hv6'] at a7'
                                  by_cases hnq : n ≤ q + cc
                                  · have hnq' : (n : Int) ≤ (q : Int) + (cc : Int) := by omega
                                    have hNn : N0.length ≤ n := by rw [HNC.out]; exact hn1'
                                    have hn9 : n ≤ 60000 := by have := HBig.out; omega
                                    have hlN : (longL 0 n N0).length ≤ 2000000 := by rw [longL_len]; omega
                                    have hlC : (longL (-1) n C0).length ≤ 2000000 := by rw [longL_len]; omega
                                    have HBig2 : Hid (n ≤ q + cc) := hnq
                                    clear hnq a7
                                    go_upto_region 41 with fail
                                    go_cut [] from 136 to 140 (fun wx => ∃ v9, Hid (v9 7 = .slice (some ⟨ob, 0, none⟩) (oddI row dv wd).length ocp) ∧ PkSt w #[.slice (some ⟨cb, co, none⟩) d.classes.length p0, .int .i64 wd, .slice (some ⟨nb, no, none⟩) d.next.length np, .slice (some ⟨tb, tq, none⟩) d.tag.length tp, .slice (some ⟨eb, eq, none⟩) d.fin.length ep] gt wd wx v9 (pkL d.classes d.tag d.fin ⟨L.base ++ [(q : Int)], L.dflt ++ [dv], longL 0 (n + 1) N0, longL (-1) n C0⟩ (oddI row dv wd)))
                                    case first =>
                                      go_wp2_with (refine wpList_pk_one S wr.heap.size rfl rfl (.tmp 137) (.tmp 138) rfl 5 (by omega) 6 rfl (longL 0 n N0) rfl (longL 0 n N0).length rfl rfl 0 rfl hlN ?_; intro g1 cap1 V1 rr SN; clear a0 a1 a2 a3 a4 a5 a6 a7'; obtain ⟨a0, a1, a2, a3, a4, a5, a6, a7⟩ := row_A rr; have fr0 := frozen_of_row _ _ 6 _ _ rr)
                                      rw [pkL_upd5, ← longL_step hNn] at SN
                                      go_meet
                                      exact ⟨upd v8 5 (.slice (some ⟨g1, 0, none⟩) ((longL 0 n N0).length + 1) cap1), H8, SN⟩
                                    case rest =>
                                      obtain ⟨v9, H9, S9⟩ := hcut
                                      clear a0 a1 a2 a3 a4 a5 a6 a7' S H8
                                      obtain ⟨a0, a1, a2, a3, a4, a5, a6, a7⟩ := row_A S9.row
                                      go_wp2_with (refine wpList_pk_one S9 wc.heap.size rfl rfl (.tmp 142) (.tmp 143) rfl 6 (by omega) 7 rfl (longL (-1) n C0) rfl (longL (-1) n C0).length rfl rfl (-1) rfl hlC ?_; intro g1 cap1 V1 rr SN; clear a0 a1 a2 a3 a4 a5 a6 a7; obtain ⟨a0, a1, a2, a3, a4, a5, a6, a7⟩ := row_A rr; have fr0 := frozen_of_row _ _ 7 _ _ rr)
                                      rw [pkL_upd6, ← longL_step hn1'] at SN
                                      have HLN : Hid _ := SN.lenAt
                                      go_roundw
                                      case rel => exact ⟨n + 1, upd v9 6 (.slice (some ⟨g1, 0, none⟩) ((longL (-1) n C0).length + 1) cap1), by omega, by have := HBig2.out; omega, H9, SN⟩
                                      case measure =>
                                        rw [HLA.out, HLN.out]
                                        show q + cc + 1 - (longL (-1) (n + 1) C0).length < _
                                        rw [longL_len]
                                        have := HBig2.out
                                        omega
                                  · have hnq' : ¬(n : Int) ≤ (q : Int) + (cc : Int) := by omega
                                    have SX : PkSt w #[.slice (some ⟨cb, co, none⟩) d.classes.length p0, .int .i64 wd, .slice (some ⟨nb, no, none⟩) d.next.length np, .slice (some ⟨tb, tq, none⟩) d.tag.length tp, .slice (some ⟨eb, eq, none⟩) d.fin.length ep] gt wd wr v8 (pkL d.classes d.tag d.fin ⟨L.base ++ [(q : Int)], L.dflt ++ [dv], longL 0 (q + cc + 1) N0, longL (-1) (q + cc + 1) C0⟩ (oddI row dv wd)) := by
                                      have hmax : n = max C0.length (q + cc + 1) := by omega
                                      have e1 : longL (-1) n C0 = longL (-1) (q + cc + 1) C0 := by rw [hmax, longL_max]
                                      have e2 : longL 0 n N0 = longL 0 (q + cc + 1) N0 := by rw [hmax, ← HNC.out, longL_max]
                                      rw [← e1, ← e2]; exact S
                                    have hXl : (longL 0 (q + cc + 1) N0).length = max N0.length (q + cc + 1) := longL_len _ _ _
                                    have hXm : (longL (-1) (q + cc + 1) C0).length = max C0.length (q + cc + 1) := longL_len _ _ _
                                    have hb6 := HBig.out
                                    obtain ⟨g5, cp5, e5, hg5, c5, f5⟩ := SX.at (i := 5) (xs := longL 0 (q + cc + 1) N0) (by omega) rfl (by omega) (by omega)
                                    have d5 := c5 (q + cc) (by omega)
                                    have f5' := f5 (q + cc)
                                    rw [e5] at a6
                                    have hi5 : (q : Int) + (cc : Int) < ((longL 0 (q + cc + 1) N0).length : Int) := by omega
                                    have rc : wr.cell? ⟨nb, no + km + cc, none⟩ = some (.int .i64 (row.getD cc 0)) := (S.below.cell (by exact nl)).trans (RowC.out cc hcw)
                                    have hcw' : (cc : Int) < (wd : Int) := by omega
                                    have SP : PkSt w #[.slice (some ⟨cb, co, none⟩) d.classes.length p0, .int .i64 wd, .slice (some ⟨nb, no, none⟩) d.next.length np, .slice (some ⟨tb, tq, none⟩) d.tag.length tp, .slice (some ⟨eb, eq, none⟩) d.fin.length ep] gt wd (wr.setCell ⟨g5, q + cc, none⟩ (.int .i64 (row.getD cc 0))) v8 (pkL d.classes d.tag d.fin ⟨L.base ++ [(q : Int)], L.dflt ++ [dv], layL 0 N0 (q + cc) (row.getD cc 0), longL (-1) (q + cc + 1) C0⟩ (oddI row dv wd)) := by
                                      have := SX.put (i := 5) (by omega) rfl e5 (q + cc) (row.getD cc 0)
                                      rw [pkL_upd5] at this
                                      exact this
                                    have HXm : Hid ((longL (-1) (q + cc + 1) C0).length = max C0.length (q + cc + 1)) := hXm
                                    clear hXl hXm hb6 c5 f5 S SX
                                    go_upto_region 43 with fail
                                    go_cut [] from 146 to 155 (fun wx => PkSt w #[.slice (some ⟨cb, co, none⟩) d.classes.length p0, .int .i64 wd, .slice (some ⟨nb, no, none⟩) d.next.length np, .slice (some ⟨tb, tq, none⟩) d.tag.length tp, .slice (some ⟨eb, eq, none⟩) d.fin.length ep] gt wd wx v8 (pkL d.classes d.tag d.fin ⟨L.base ++ [(q : Int)], L.dflt ++ [dv], layL 0 N0 (q + cc) (row.getD cc 0), longL (-1) (q + cc + 1) C0⟩ (oddI row dv wd)))
                                    case first =>
                                      go_region
                                      all_goals
                                        go_wp2
                                        go_meet
                                        first | exact SP | exact SP.drew
                                    case rest =>
                                      clear a0 a1 a2 a3 a4 a5 a6 a7 a7' SP d5 f5' rc e5
                                      have hXm := HXm.out
                                      have hb6 := HBig.out
                                      obtain ⟨g6, cp6, e6, hg6, c6, f6⟩ := hcut.at (i := 6) (xs := longL (-1) (q + cc + 1) C0) (by omega) rfl (by omega) (by omega)
                                      obtain ⟨a0, a1, a2, a3, a4, a5, a6, a7⟩ := row_A hcut.row
                                      have d6 := c6 (q + cc) (by omega)
                                      have f6' := f6 (q + cc)
                                      rw [e6] at a7
                                      have hi6 : (q : Int) + (cc : Int) < ((longL (-1) (q + cc + 1) C0).length : Int) := by omega
                                      have SP2 : PkSt w #[.slice (some ⟨cb, co, none⟩) d.classes.length p0, .int .i64 wd, .slice (some ⟨nb, no, none⟩) d.next.length np, .slice (some ⟨tb, tq, none⟩) d.tag.length tp, .slice (some ⟨eb, eq, none⟩) d.fin.length ep] gt wd (wc.setCell ⟨g6, q + cc, none⟩ (.int .i64 (k : Int))) v8 (pkL d.classes d.tag d.fin ⟨L.base ++ [(q : Int)], L.dflt ++ [dv], layAll 0 L.next q (fun c => row.getD c 0) ((oddF row dv wd).take (m + 1)), layAll (-1) L.chk q (fun _ => (k : Int)) ((oddF row dv wd).take (m + 1))⟩ (oddI row dv wd)) := by
                                        have := hcut.put (i := 6) (by omega) rfl e6 (q + cc) (k : Int)
                                        rw [pkL_upd6] at this
                                        rw [HN1.out, HC1.out]
                                        exact this
                                      clear hXm hb6 c6 f6 hcut
                                      go_wp2
                                      go_roundw
                                      case rel => exact ⟨m + 1, v8, by omega, by go_num, H8, SP2, HLow2.out⟩
                                      case measure => simp [intOf]; omega
                              · have hbig' : 60000 ≤ (q : Int) + (cc : Int) := by omega
                                have HNone : Hid (layN d.next wd (k + 1) = none) := by
                                  show _ = _
                                  rw [HF.out, HRow.out, if_neg HOd.out, HFit.out, if_neg]
                                  intro hall
                                  rw [List.all_eq_true] at hall
                                  have := hall cc HMem.out
                                  simp at this
                                  omega
                                have HC2 : Hid (packC d = 2) := by
                                  show _ = _
                                  have e1 : packN d = none := by
                                    unfold packN
                                    rw [show d.width.toNat = wd by rw [Hwd.out]; rfl]
                                    exact layN_stop HNone.out _ hlt
                                  unfold packC
                                  rw [if_neg (by simp [hB]), if_pos e1]
                                have hr := S.res
                                have fr : ∀ o, wr.frozen? ⟨w.heap.size + 1, o, none⟩ = false := fun _ => frozen_of_row _ _ _ _ _ hr
                                unfold zeroA at hr
                                obtain ⟨y0, y1, y2, y3, y4, y5, y6, y7⟩ := row_eight hr
                                have h8 := below_set8 S.below (show w.heap.size ≤ w.heap.size + 1 by omega) (.slice none 0 0) (.int .i64 0) (.slice none 0 0) (.slice none 0 0) (.slice none 0 0) (.slice none 0 0) (.slice none 0 0) (.slice none 0 0)
                                have H8 : Hid (Below w.heap.size w (set8 wr (w.heap.size + 1) (.slice none 0 0) (.int .i64 0) (.slice none 0 0) (.slice none 0 0) (.slice none 0 0) (.slice none 0 0) (.slice none 0 0) (.slice none 0 0))) := h8
                                clear h8 hr HNone HF HRow S
                                go_wp2
                                refine bodyPost_ret (v := .tuple #[.agg #[.slice none 0 0, .int .i64 0, .slice none 0 0, .slice none 0 0, .slice none 0 0, .slice none 0 0, .slice none 0 0, .slice none 0 0], .int .i64 2]) (by simp [results, Tryd.results5, go_sem, y0, y1, y2, y3, y4, y5, y6, y7]) rfl ?_
                                obtain ⟨e1, e2⟩ := pack_bad HC2.out (by decide)
                                rw [e1, e2, HC2.out]
                                exact ⟨w.heap.size, fun _ => .slice none 0 0, rfl, Nat.le_refl _, Fam.nil _ _ _, H8.out⟩
                            · have hmm : m = (oddI row dv wd).length := by omega
                              have htk : (oddF row dv wd).take m = oddF row dv wd := List.take_of_length_le (by rw [← oddI_len]; omega)
                              rw [htk] at S HLow
                              have HFs : Hid (layN d.next wd (k + 1) = some ⟨L.base ++ [(q : Int)], L.dflt ++ [dv], layAll 0 L.next q (fun c => row.getD c 0) (oddF row dv wd), layAll (-1) L.chk q (fun _ => (k : Int)) (oddF row dv wd)⟩) := by
                                show _ = _
                                rw [HF.out, HRow.out, if_neg HOd.out, HFit.out, if_pos]
                                rw [List.all_eq_true]
                                intro c hc
                                simp only [decide_eq_true_eq]
                                exact HLow.out c hc
                              have HNC : Hid ((layAll 0 L.next q (fun c => row.getD c 0) (oddF row dv wd)).length = (layAll (-1) L.chk q (fun _ => (k : Int)) (oddF row dv wd)).length) := layAll_lens _ _ _ _ _ _ _ _ HLen.out.1
                              have hCle : (layAll (-1) L.chk q (fun _ => (k : Int)) (oddF row dv wd)).length ≤ 60000 := layAll_lt _ _ _ _ _ _ hcm HLow.out
                              clear htk hmm HLow HF HRow HFit
                              go_wp2
                              go_roundw
                              case rel => exact ⟨k + 1, _, v7, _, by omega, by go_num, HFs.out, S, ⟨HNC.out, by simp [HLen.out.2.1], by simp [HLen.out.2.2]⟩, hCle, by have := HLen.out.2.1; simp; omega, by have := HLen.out.2.2; simp; omega⟩
                              case measure => simp [intOf]; omega
          · have hkn : k = d.tag.length := by omega
            have HP := pack_good (d := d) (L := L) hB (by unfold packN; rw [show d.width.toNat = wd by rw [Hwd.out]; rfl, ← hkn]; exact HL.out)
            have HPa : Hid (packC d = 0 ∧ packW d = wd ∧ packLs d = pkL d.classes d.tag d.fin L []) := ⟨HP.1, HP.2.1.trans Hwd.out, HP.2.2⟩
            clear HP hkn HL
            have F7 : Fam gt 7 wr v (pkL d.classes d.tag d.fin L []) := (S.fam.take (by omega)).congr fun i hi => by
              match i, hi with
              | 0, _ => rfl
              | 1, _ => rfl
              | 2, _ => rfl
              | 3, _ => rfl
              | 4, _ => rfl
              | 5, _ => rfl
              | 6, _ => rfl
            obtain ⟨⟨b0, z0⟩, e0⟩ := owns_form (F7.own 0 (by omega))
            obtain ⟨⟨b1, z1⟩, e1⟩ := owns_form (F7.own 1 (by omega))
            obtain ⟨⟨b2, z2⟩, e2⟩ := owns_form (F7.own 2 (by omega))
            obtain ⟨⟨b3, z3⟩, e3⟩ := owns_form (F7.own 3 (by omega))
            obtain ⟨⟨b4, z4⟩, e4⟩ := owns_form (F7.own 4 (by omega))
            obtain ⟨⟨b5, z5⟩, e5⟩ := owns_form (F7.own 5 (by omega))
            obtain ⟨⟨b6, z6⟩, e6⟩ := owns_form (F7.own 6 (by omega))
            have hrow := S.row
            have hres := S.res
            have hbl2 := S.below
            have hov2 := S.over
            clear S
            have fr : ∀ o, wr.frozen? ⟨w.heap.size + 1, o, none⟩ = false := fun _ => frozen_of_row _ _ _ _ _ hres
            have E : Hid (rowA wd v = #[.slice b0 (pkL d.classes d.tag d.fin L [] 0).length z0, .int .i64 wd, .slice b1 (pkL d.classes d.tag d.fin L [] 1).length z1, .slice b2 (pkL d.classes d.tag d.fin L [] 2).length z2, .slice b3 (pkL d.classes d.tag d.fin L [] 3).length z3, .slice b4 (pkL d.classes d.tag d.fin L [] 4).length z4, .slice b5 (pkL d.classes d.tag d.fin L [] 5).length z5, .slice b6 (pkL d.classes d.tag d.fin L [] 6).length z6]) := by show _ = _; unfold rowA; rw [e0, e1, e2, e3, e4, e5, e6]
            rw [E.out] at hrow
            unfold zeroA at hres
            obtain ⟨x0, x1, x2, x3, x4, x5, x6, x7⟩ := row_eight hrow
            obtain ⟨y0, y1, y2, y3, y4, y5, y6, y7⟩ := row_eight hres
            have h8 := below_set8 hbl2 (show w.heap.size ≤ w.heap.size + 1 by omega) (.slice b0 (pkL d.classes d.tag d.fin L [] 0).length z0) (.int .i64 wd) (.slice b1 (pkL d.classes d.tag d.fin L [] 1).length z1) (.slice b2 (pkL d.classes d.tag d.fin L [] 2).length z2) (.slice b3 (pkL d.classes d.tag d.fin L [] 3).length z3) (.slice b4 (pkL d.classes d.tag d.fin L [] 4).length z4) (.slice b5 (pkL d.classes d.tag d.fin L [] 5).length z5) (.slice b6 (pkL d.classes d.tag d.fin L [] 6).length z6)
            have f8 := Fam.set8 F7 (b := w.heap.size + 1) (by omega) (.slice b0 (pkL d.classes d.tag d.fin L [] 0).length z0) (.int .i64 wd) (.slice b1 (pkL d.classes d.tag d.fin L [] 1).length z1) (.slice b2 (pkL d.classes d.tag d.fin L [] 2).length z2) (.slice b3 (pkL d.classes d.tag d.fin L [] 3).length z3) (.slice b4 (pkL d.classes d.tag d.fin L [] 4).length z4) (.slice b5 (pkL d.classes d.tag d.fin L [] 5).length z5) (.slice b6 (pkL d.classes d.tag d.fin L [] 6).length z6)
            have H8 : Hid _ := And.intro h8 f8
            clear h8 f8 e0 e1 e2 e3 e4 e5 e6 hrow hres F7
            go_wp2
            refine bodyPost_ret (v := .tuple #[.agg (rowA wd v), .int .i64 0]) (by rw [E.out]; simp [results, Tryd.results5, go_sem, y0, y1, y2, y3, y4, y5, y6, y7]) rfl ?_
            obtain ⟨q1, q2, q3⟩ := HPa.out
            rw [q1, q2, q3]
            exact ⟨gt, v, rfl, by omega, H8.out.2, H8.out.1⟩

theorem specPack_ok {lo : Nat} (cv nv tv ev : Value) (d : DfaD) (w : World) (hs : DfaAt lo w cv nv tv ev d) (hcap : ∃ ao cap, nv = .slice ao d.next.length cap ∧ d.next.length ≤ cap) :
    Calls Tryd.prog 5 #[.agg #[cv, .int .i64 d.width, nv, tv, ev]] w fun e w' => LoadAns w (packW d) (packC d) (packLs d) e w' := by
  cases hB : dfaB d
  · have h : packC d = 1 := by unfold packC; rw [if_pos hB]
    obtain ⟨e1, e2⟩ := pack_bad h (by decide)
    rw [e1, e2, h]
    exact specPack_bad cv nv tv ev d w hs hB
  · have hw := (dfaB_fine hB).w1
    exact specPack_t cv nv tv ev d d.width.toNat w hs (by omega) hcap hB
end Go.Proofs.YtplhghhfdabccaaDoor
