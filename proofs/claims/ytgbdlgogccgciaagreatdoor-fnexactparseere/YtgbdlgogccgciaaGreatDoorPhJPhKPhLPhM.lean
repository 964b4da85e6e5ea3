import Derived.Test.YtgbdlgogccgciaaGreatDoorPhFPhGPhHPhI
namespace Go.Proofs.YtgbdlgogccgciaaGreatDoor
open Go.RowKit
attribute [local go_sem ↓] Go.wp_at_zero Go.wp_at_succ

/- NODES MARKED. -/
def szN (n : NodeD) : Int := 4 + 2 * (n.set.length : Int)
def kN (ns : List NodeD) (k : Int) : Nat → Int
  | 0 => k
  | i + 1 => kN ns k i + szN (ns.getD i .zero)
def mkNode (n : NodeD) (K : Int) : NodeD := ⟨K, mkR n.set.length (K + 1), K + 1 + 2 * (n.set.length : Int), K + 1 + 2 * (n.set.length : Int) + 1, K + 1 + 2 * (n.set.length : Int) + 1 + 1⟩
def mixN (ns : List NodeD) (k : Int) (i : Nat) : List NodeD := (List.range ns.length).map fun j => if j < i then mkNode (ns.getD j .zero) (kN ns k j) else ns.getD j .zero
def mkN (ns : List NodeD) (k : Int) : List NodeD := mixN ns k ns.length
theorem mixN_len (ns : List NodeD) (k : Int) (i : Nat) : (mixN ns k i).length = ns.length := by simp [mixN]
theorem mixN_zero (ns : List NodeD) (k : Int) : mixN ns k 0 = ns := by
  unfold mixN
  apply List.ext_getElem
  · simp
  · intro n h1 h2
    simp [List.getD, h2]
theorem mixN_get (ns : List NodeD) (k : Int) {i : Nat} (hi : i < ns.length) : (mixN ns k i).getD i .zero = ns.getD i .zero := by
  unfold mixN
  simp [List.getD, hi]
theorem mixN_set (ns : List NodeD) (k : Int) (i : Nat) : (mixN ns k i).set i (mkNode (ns.getD i .zero) (kN ns k i)) = mixN ns k (i + 1) := by
  unfold mixN
  apply List.ext_getElem
  · simp
  · intro n h1 h2
    rw [List.getElem_set]
    by_cases e : i = n
    · subst e; simp
    · rw [if_neg e]
      simp only [List.getElem_map, List.getElem_range]
      by_cases e2 : n < i
      · rw [if_pos e2, if_pos (by omega)]
      · rw [if_neg e2, if_neg (by omega)]
/-- What is kept: all blocks but those of S. -/
structure MkK (S : Nat → Prop) (W w' : World) : Prop where
  os : w'.os = W.os
  tape : w'.tape = W.tape
  output : w'.output = W.output
  size : W.heap.size ≤ w'.heap.size
  block : ∀ k, k < W.heap.size → ¬S k → w'.heap[k]? = W.heap[k]?
theorem MkK.refl (S : Nat → Prop) (W : World) : MkK S W W := ⟨rfl, rfl, rfl, Nat.le_refl _, fun _ _ _ => rfl⟩
theorem MkK.cell {S : Nat → Prop} {W w' : World} (h : MkK S W w') {g : Nat} (hg : S g) (o : Nat) (u : Value) : MkK S W (w'.setCell ⟨g, o, none⟩ u) :=
  ⟨h.os, h.tape, h.output, by simpa [World.setCell] using h.size, fun k hk hr => by rw [heap_setCell_other _ _ _ _ (fun e => hr (by rw [e]; exact hg))]; exact h.block k hk hr⟩
theorem MkK.grown {S : Nat → Prop} {W w1 w2 : World} (h : MkK S W w1) {row : Option Nat} (hr : ∀ b, row = some b → S b) (hg : w1.grownBy w2 row) : MkK S W w2 :=
  ⟨hg.os.trans h.os, hg.tape.trans h.tape, hg.output.trans h.output, Nat.le_trans h.size hg.size, fun k hk hs => by rw [hg.block k (Nat.lt_of_lt_of_le hk h.size) (fun e => hs (hr k e.symm))]; exact h.block k hk hs⟩
theorem NdP.cellF {B p : Nat} {W : World} {g n cap : Nat} {ns : List NodeD} {vs : List Value} (h : NdP B p W (.slice (some ⟨g, 0, none⟩) n cap) ns vs) {i f : Nat} (hi : i < ns.length) (hf : f < 5) : W.cell? ⟨g, i * 5 + f, none⟩ = (nd5 (ns.getD i .zero) (vs.getD i nilS))[f]? ∧ W.frozen? ⟨g, i * 5 + f, none⟩ = false := by
  have ho := h.2.1
  have hnn : n = ns.length := by
    rcases ho.2 with ⟨e, _⟩ | ⟨g', cap', cur, e, _⟩
    · cases e
    · cases e; rfl
  subst hnn
  exact ⟨(ho.cellAt _ (by omega)).trans (ndC_get _ _ hi hf), (own_cellZ ho (by omega)).2⟩
theorem setGet {M : List NodeD} {i : Nat} (h : i < M.length) (n : NodeD) : (M.set i n).getD i .zero = n := by simp [List.getD, h]
theorem NdP.put2 {B p : Nat} {W : World} {g n cap : Nat} {M : List NodeD} {vs : List Value} {i f : Nat} {n1 : NodeD} (h : NdP B p W (.slice (some ⟨g, 0, none⟩) n cap) (M.set i n1) vs) (hi : i < M.length) (n' : NodeD) (u : Value) (hf : f < 5) (hn : nd5 n' (vs.getD i nilS) = (nd5 n1 (vs.getD i nilS)).set f u) (hs : n'.set = n1.set) :
    NdP B p (W.setCell ⟨g, i * 5 + f, none⟩ u) (.slice (some ⟨g, 0, none⟩) n cap) (M.set i n') vs := by
  have h9 := h.put (i := i) (f := f) n' u (by rw [List.length_set]; exact hi) hf (by rw [setGet hi]; exact hn) (by rw [setGet hi]; exact hs)
  rw [List.set_set] at h9
  exact h9
theorem NdP.cell2 {B p : Nat} {W : World} {g n cap : Nat} {M : List NodeD} {vs : List Value} {i f : Nat} {n1 : NodeD} (h : NdP B p W (.slice (some ⟨g, 0, none⟩) n cap) (M.set i n1) vs) (hi : i < M.length) (hf : f < 5) : W.cell? ⟨g, i * 5 + f, none⟩ = (nd5 n1 (vs.getD i nilS))[f]? ∧ W.frozen? ⟨g, i * 5 + f, none⟩ = false := by
  have h9 := h.cellF (i := i) (f := f) (by rw [List.length_set]; exact hi) hf
  rw [setGet hi] at h9
  exact h9
set_option maxRecDepth 100000 in
set_option maxHeartbeats 4000000 in
theorem markNodeS_ok {B p : Nat} {g n cap : Nat} {ns : List NodeD} {vs : List Value} (k : Int) (w : World) (h : NdP B p w (.slice (some ⟨g, 0, none⟩) n cap) ns vs) (hnd : (vs.filterMap Value.ownBlock).Nodup) (hK : ∀ i, i ≤ ns.length → 0 ≤ kN ns k i ∧ kN ns k i ≤ 100000000) (hS : ∀ i, i < ns.length → (ns.getD i .zero).set.length ≤ 100000) (hnl : ns.length ≤ 100000) :
    Calls Tryz.prog 40 #[.slice (some ⟨g, 0, none⟩) n cap, .int .i64 k] w fun e w' => e = .returned (.int .i64 (kN ns k ns.length)) ∧ NdP B p w' (.slice (some ⟨g, 0, none⟩) n cap) (mkN ns k) vs ∧ MkK (fun b => b = g ∨ b ∈ vs.filterMap Value.ownBlock) w w' := by
  have hnn : n = ns.length := by
    rcases h.2.1.2 with ⟨e, _⟩ | ⟨g', cap', cur, e, _⟩
    · cases e
    · cases e; rfl
  have HN0 : Hid (NdP B p w (.slice (some ⟨g, 0, none⟩) n cap) (mixN ns k 0) vs) := by rw [mixN_zero]; exact h
  have hvl := h.1
  have Hnn := hid hnn
  have HK := hid hK
  have HS := hid hS
  have HND := hid hnd
  have HVL := hid hvl
  have hn2 : n ≤ 100000 := by omega
  rw [← hnn]
  clear h hnn hK hS hnd hvl hnl
  go_enter Tryz.func40, Tryz.ntmps40
  go_wp2
  go_loopw [1, 5] (fun kv iv wr => ∃ i : Nat, i ≤ n ∧ kv = .int .i64 (kN ns k i) ∧ iv = .int .i64 (i : Int) ∧ Hid (NdP B p wr (.slice (some ⟨g, 0, none⟩) n cap) (mixN ns k i) vs) ∧ Hid (MkK (fun b => b = g ∨ b ∈ vs.filterMap Value.ownBlock) w wr)) (fun _ iv _ => n - (intOf iv).toNat)
  case atStart => exact ⟨0, by omega, rfl, rfl, HN0, MkK.refl _ _⟩
  case round =>
    clear HN0
    obtain ⟨i, hi, rfl, rfl, HN, HM⟩ := hrel
    by_cases hlt : i < n
    · have hltI : (i : Int) < (n : Int) := by omega
      have hil : i < ns.length := by have := Hnn.out; omega
      have hil2 : i < (mixN ns k i).length := by rw [mixN_len]; exact hil
      have hnext : kN ns k (i + 1) = kN ns k i + (4 + 2 * ((ns.getD i .zero).set.length : Int)) := rfl
      obtain ⟨hK0, hK1⟩ := HK.out i (by omega)
      have hset := HS.out i hil
      have hgi := mixN_get ns k hil
      have hms := mixN_set ns k i
      generalize hKK : kN ns k i = K at *
      obtain ⟨nd, hndd⟩ : ∃ nd, nd = ns.getD i .zero := ⟨_, rfl⟩
      rw [← hndd] at hnext hset hgi hms
      have c0 : wr.cell? ⟨g, i * 5 + 0, none⟩ = some (.int .i64 nd.kind) := by have h9 := (HN.out.cellF hil2 (f := 0) (by omega)).1; rw [hgi] at h9; exact h9
      have f0 := (HN.out.cellF hil2 (f := 0) (by omega)).2
      have N1 := HN.out.put (i := i) (f := 0) { nd with kind := K } (.int .i64 K) hil2 (by omega) (by rw [hgi]; rfl) (by rw [hgi])
      have M1 := HM.out.cell (g := g) (.inl rfl) (i * 5 + 0) (.int .i64 K)
      rw [Nat.add_zero] at c0 f0 N1 M1
      have HN1 := hid N1
      have HM1 := hid M1
      have HMS := hid hms
      have Hnext := hid hnext
      have HKK := hid hKK
      clear N1 M1 hms hnext hKK HN HM hgi
      go_upto_region 6 with fail
      generalize wr.setCell ⟨g, i * 5, none⟩ (.int .i64 K) = W1 at *
      clear c0 f0
      have hvi : i < vs.length := by rw [HVL.out]; exact hil
      have hR1 : RngO B W1 (vs.getD i nilS) nd.set := by
        have h9 := (HN1.out.2.2 i (by rw [List.length_set]; exact hil2)).1
        rw [setGet hil2] at h9
        exact h9
      obtain ⟨sa, sn, sc, hsv⟩ := hR1.form
      have c1 : W1.cell? ⟨g, i * 5 + 1, none⟩ = some (.slice sa sn sc) := by rw [(HN1.out.cell2 hil2 (f := 1) (by omega)).1, ← hsv]; rfl
      have hC := markRangeS_ok (K + 1) W1 hR1 (by omega) hset
      rw [hsv] at hC
      have HSV := hid hsv
      clear hR1 hsv
      generalize hLL : ((nd.set.length : Nat) : Int) = LL at *
      have hL0 : 0 ≤ LL ∧ LL ≤ 100000 := by omega
      have HLL := hid hLL
      clear hLL
      go_wp2_with fail
      refine hC.mono ?_
      rintro e W2 ⟨rfl, hR2, hg2⟩
      have HN2 : Hid (NdP B p W2 (.slice (some ⟨g, 0, none⟩) n cap) ((mixN ns k i).set i ⟨K, mkR nd.set.length (K + 1), nd.min, nd.max, nd.group⟩) vs) := by
        have h9 := HN1.out.puts HND.out (i := i) (by rw [List.length_set]; exact hil2) (mkR nd.set.length (K + 1)) (by rw [HSV.out]; exact hR2) (by rw [HSV.out]; exact hg2)
        rw [setGet hil2, List.set_set] at h9
        exact h9
      have HM2 := hid (HM1.out.grown (fun b hb => .inr (blocks_mem hvi (by rw [HSV.out]; exact hb))) hg2)
      have c2 : W2.cell? ⟨g, i * 5 + 2, none⟩ = some (.int .i64 nd.min) := (HN2.out.cell2 hil2 (f := 2) (by omega)).1
      have f2 := (HN2.out.cell2 hil2 (f := 2) (by omega)).2
      have N3 := HN2.out.put2 (f := 2) hil2 ⟨K, mkR nd.set.length (K + 1), K + 1 + 2 * LL, nd.max, nd.group⟩ (.int .i64 (K + 1 + 2 * LL)) (by omega) rfl rfl
      have HN3 := hid N3
      have HM3 := hid (HM2.out.cell (g := g) (.inl rfl) (i * 5 + 2) (.int .i64 (K + 1 + 2 * LL)))
      clear N3 hC hR2 hg2 c1 HN1 HM1
      go_upto_region 9 with fail
      generalize W2.setCell ⟨g, i * 5 + 2, none⟩ (.int .i64 (K + 1 + 2 * LL)) = W3 at *
      clear c2 f2
      have c2 : W3.cell? ⟨g, i * 5 + 3, none⟩ = some (.int .i64 nd.max) := (HN3.out.cell2 hil2 (f := 3) (by omega)).1
      have f2 := (HN3.out.cell2 hil2 (f := 3) (by omega)).2
      have N4 := HN3.out.put2 (f := 3) hil2 ⟨K, mkR nd.set.length (K + 1), K + 1 + 2 * LL, K + 1 + 2 * LL + 1, nd.group⟩ (.int .i64 (K + 1 + 2 * LL + 1)) (by omega) rfl rfl
      have HN4 := hid N4
      have HM4 := hid (HM3.out.cell (g := g) (.inl rfl) (i * 5 + 3) (.int .i64 (K + 1 + 2 * LL + 1)))
      clear N4 HN2 HM2
      go_upto_region 11 with fail
      generalize W3.setCell ⟨g, i * 5 + 3, none⟩ (.int .i64 (K + 1 + 2 * LL + 1)) = W4 at *
      clear c2 f2
      have c2 : W4.cell? ⟨g, i * 5 + 4, none⟩ = some (.int .i64 nd.group) := (HN4.out.cell2 hil2 (f := 4) (by omega)).1
      have f2 := (HN4.out.cell2 hil2 (f := 4) (by omega)).2
      have N5 := HN4.out.put2 (f := 4) hil2 ⟨K, mkR nd.set.length (K + 1), K + 1 + 2 * LL, K + 1 + 2 * LL + 1, K + 1 + 2 * LL + 1 + 1⟩ (.int .i64 (K + 1 + 2 * LL + 1 + 1)) (by omega) rfl rfl
      have HN5 : Hid (NdP B p (W4.setCell ⟨g, i * 5 + 4, none⟩ (.int .i64 (K + 1 + 2 * LL + 1 + 1))) (.slice (some ⟨g, 0, none⟩) n cap) (mixN ns k (i + 1)) vs) := by
        rw [← HMS.out]
        unfold mkNode
        rw [HLL.out]
        exact N5
      have HM5 := hid (HM4.out.cell (g := g) (.inl rfl) (i * 5 + 4) (.int .i64 (K + 1 + 2 * LL + 1 + 1)))
      have HKN : Hid (K + 1 + 2 * LL + 1 + 1 + 1 = kN ns k (i + 1)) := by
        show _ = _
        rw [Hnext.out]
        omega
      clear N5 HN3 HM3 HN4 HM4
      go_wp2
      go_roundw
      case rel => exact ⟨i + 1, by omega, by rw [HKN.out], by go_num, HN5, HM5⟩
      case measure => simp [intOf]; omega
    · have hin : i = n := by omega
      subst hin
      go_wp2
      go_ret
      exact ⟨rfl, by unfold mkN; rw [← Hnn.out]; exact HN.out, HM.out⟩
end Go.Proofs.YtgbdlgogccgciaaGreatDoor
namespace Go.Proofs.YtgbdlgogccgciaaGreatDoor
open Go.RowKit
attribute [local go_sem ↓] Go.wp_at_zero Go.wp_at_succ

/- NODES' MARKS READ AGAIN. -/
theorem mkN_len (ns : List NodeD) (k : Int) : (mkN ns k).length = ns.length := mixN_len _ _ _
theorem mkN_get (ns : List NodeD) (k : Int) {i : Nat} (hi : i < ns.length) : (mkN ns k).getD i .zero = mkNode (ns.getD i .zero) (kN ns k i) := by
  unfold mkN mixN
  simp [List.getD, hi]
set_option maxRecDepth 100000 in
set_option maxHeartbeats 4000000 in
theorem heldNodeS_ok {lo : Nat} {v : Value} {ns : List NodeD} (k : Int) (w : World) (h : NodesAt lo w v (mkN ns k)) (hK : ∀ i, i ≤ ns.length → 0 ≤ kN ns k i ∧ kN ns k i ≤ 100000000) (hS : ∀ i, i < ns.length → (ns.getD i .zero).set.length ≤ 100000) (hnl : ns.length ≤ 100000) :
    Calls Tryz.prog 41 #[v, .int .i64 k] w fun e w' => e = .returned (.int .i64 (kN ns k ns.length)) ∧ w' = w := by
  obtain ⟨ao, cap, rfl, hm, hc⟩ := h
  rw [mkN_len] at hm ⊢
  have HC : Hid (∀ i, i < ns.length → ∃ b o sv, ao = some ⟨b, o, none⟩ ∧ w.cell? ⟨b, o + i * 5, none⟩ = some (.int .i64 (kN ns k i)) ∧ w.cell? ⟨b, o + i * 5 + 1, none⟩ = some sv ∧ RangesAt lo w sv (mkR (ns.getD i .zero).set.length (kN ns k i + 1)) ∧
      w.cell? ⟨b, o + i * 5 + 2, none⟩ = some (.int .i64 (kN ns k i + 1 + 2 * ((ns.getD i .zero).set.length : Int))) ∧ w.cell? ⟨b, o + i * 5 + 3, none⟩ = some (.int .i64 (kN ns k i + 1 + 2 * ((ns.getD i .zero).set.length : Int) + 1)) ∧ w.cell? ⟨b, o + i * 5 + 4, none⟩ = some (.int .i64 (kN ns k i + 1 + 2 * ((ns.getD i .zero).set.length : Int) + 1 + 1))) := fun i hi => by
    obtain ⟨b, o, e, _, _, h9⟩ := hc (by rw [mkN_len]; omega)
    have h8 := h9 i (by rw [mkN_len]; exact hi)
    rw [mkN_get ns k hi] at h8
    obtain ⟨q0, ⟨sv, q1, q2⟩, q3, q4, q5⟩ := h8
    exact ⟨b, o, sv, e, q0, q1, q2, q3, q4, q5⟩
  have HK := hid hK
  have HS := hid hS
  obtain ⟨n, hnn⟩ : ∃ n, n = ns.length := ⟨_, rfl⟩
  have hn2 : n ≤ 100000 := by omega
  have Hnn := hid hnn
  rw [← hnn]
  clear hc hm hK hS hnl hnn
  go_enter Tryz.func41, Tryz.ntmps41
  go_wp2
  go_loopw [1, 5] (fun kv iv wr => ∃ i : Nat, i ≤ n ∧ kv = .int .i64 (kN ns k i) ∧ iv = .int .i64 (i : Int) ∧ wr = w) (fun _ iv _ => n - (intOf iv).toNat)
  case atStart => exact ⟨0, by omega, rfl, rfl, rfl⟩
  case round =>
    obtain ⟨i, hi, rfl, rfl, rfl⟩ := hrel
    by_cases hlt : i < n
    · have hltI : (i : Int) < (n : Int) := by omega
      have hil : i < ns.length := by have := Hnn.out; omega
      obtain ⟨b, o, sv, rfl, c0, c1, hR, c2, c3, c4⟩ := HC.out i hil
      have hnext : kN ns k (i + 1) = kN ns k i + (4 + 2 * ((ns.getD i .zero).set.length : Int)) := rfl
      obtain ⟨hK0, hK1⟩ := HK.out i (by omega)
      have hset := HS.out i hil
      generalize kN ns k i = K at *
      generalize (ns.getD i .zero).set.length = L at *
      have hC := heldRangeS_ok (K + 1) wr hR (by omega) hset
      obtain ⟨sa, scap, hsv, _⟩ := hR
      rw [mkR_len] at hsv
      subst hsv
      have hneg : ¬K + 1 + 2 * (L : Int) < 0 := by omega
      have Hnext := hid hnext
      clear HC hnext
      go_wp2_with fail
      refine hC.mono ?_
      rintro e w2 ⟨rfl, hw2⟩
      rw [hw2]
      clear hw2 w2 hC
      go_wp2
      go_roundw
      case rel => exact ⟨i + 1, by omega, by rw [Hnext.out]; congr 1; omega, by go_num, trivial⟩
      case measure => simp [intOf]; omega
    · have hin : i = n := by omega
      subst hin
      go_wp2
      go_ret
      exact ⟨rfl, rfl⟩
end Go.Proofs.YtgbdlgogccgciaaGreatDoor
namespace Go.Proofs.YtgbdlgogccgciaaGreatDoor
open Go.RowKit
attribute [local go_sem ↓] Go.wp_at_zero Go.wp_at_succ

/- MARKS WRITTEN INTO BRANCHES. -/
theorem brC_put (bs : List BranchD) (nv : Nat → Value) {i f : Nat} (b' : BranchD) (u : Value) (hi : i < bs.length) (hf : f < 3) (hn : br3 b' (nv i) = (br3 (bs.getD i .zero) (nv i)).set f u) : brC (bs.set i b') nv = (brC bs nv).set (i * 3 + f) u := by
  apply List.ext_getElem?
  intro m
  have hl1 : (brC (bs.set i b') nv).length = bs.length * 3 := by rw [brC_len, List.length_set]
  have hl2 : ((brC bs nv).set (i * 3 + f) u).length = bs.length * 3 := by rw [List.length_set, brC_len]
  by_cases hm : m < bs.length * 3
  · have hk : m / 3 < bs.length := by omega
    have hj : m % 3 < 3 := Nat.mod_lt _ (by omega)
    have hme : m = m / 3 * 3 + m % 3 := by omega
    have hL : (brC (bs.set i b') nv)[m]? = (br3 ((bs.set i b').getD (m / 3) .zero) (nv (m / 3)))[m % 3]? := by
      conv => lhs; rw [hme]
      exact brC_get _ _ (by rw [List.length_set]; exact hk) hj
    have hR : (brC bs nv)[m]? = (br3 (bs.getD (m / 3) .zero) (nv (m / 3)))[m % 3]? := by
      conv => lhs; rw [hme]
      exact brC_get _ _ hk hj
    rw [hL, List.getElem?_set]
    by_cases e : m / 3 = i
    · have hg : (bs.set i b').getD (m / 3) .zero = b' := by rw [e]; simp [List.getD, hi]
      rw [hg, e, hn, List.getElem?_set]
      by_cases e2 : f = m % 3
      · rw [if_pos e2, if_pos (show f < (br3 (bs.getD i .zero) (nv i)).length from hf), if_pos (show i * 3 + f = m by omega), if_pos (show i * 3 + f < (brC bs nv).length by rw [brC_len]; omega)]
      · rw [if_neg e2, if_neg (by omega), hR, e]
    · have hg : (bs.set i b').getD (m / 3) .zero = bs.getD (m / 3) .zero := by
        simp only [List.getD]
        rw [List.getElem?_set_ne (fun h => e h.symm)]
      rw [hg, if_neg (by omega), hR]
  · rw [List.getElem?_eq_none (by omega), List.getElem?_eq_none (by omega)]
theorem setGetB {M : List BranchD} {i : Nat} (h : i < M.length) (n : BranchD) : (M.set i n).getD i .zero = n := by simp [List.getD, h]
theorem setGetN {M : List BranchD} {i k : Nat} (h : k ≠ i) (n : BranchD) : (M.set i n).getD k .zero = M.getD k .zero := by
  simp only [List.getD]
  rw [List.getElem?_set_ne (fun e => h e.symm)]
theorem BrP.len {B p : Nat} {W : World} {g n cap : Nat} {bs : List BranchD} {nvs : List Value} {vss : List (List Value)} (h : BrP B p W (.slice (some ⟨g, 0, none⟩) n cap) bs nvs vss) : n = bs.length := by
  rcases h.own.2 with ⟨e, _⟩ | ⟨g', cap', cur, e, _⟩
  · cases e
  · cases e; rfl
/-- An anchor of a branch is stored. -/
theorem BrP.put {B p : Nat} {W : World} {g n cap : Nat} {bs : List BranchD} {nvs : List Value} {vss : List (List Value)} (h : BrP B p W (.slice (some ⟨g, 0, none⟩) n cap) bs nvs vss) {i f : Nat} (b' : BranchD) (u : Value) (hi : i < bs.length) (hf : f < 3) (hn : br3 b' (nvs.getD i nilS) = (br3 (bs.getD i .zero) (nvs.getD i nilS)).set f u) (hs : b'.nodes = (bs.getD i .zero).nodes) :
    BrP B p (W.setCell ⟨g, i * 3 + f, none⟩ u) (.slice (some ⟨g, 0, none⟩) n cap) (bs.set i b') nvs vss := by
  have hgp := h.vlt g rfl
  have hnn := h.len
  subst hnn
  refine ⟨by rw [List.length_set]; exact h.l1, by rw [List.length_set]; exact h.l2, ?_, fun k hk => ?_, h.nd, h.ne⟩
  · rw [List.length_set, brC_put bs _ b' u hi hf hn]
    exact ownsRow_put h.own _ _
  · rw [List.length_set] at hk
    have hset : ((bs.set i b').getD k .zero).nodes = (bs.getD k .zero).nodes := by
      by_cases e : k = i
      · subst e; rw [setGetB hk]; exact hs
      · rw [setGetN e]
    rw [hset]
    refine (h.nds k hk).keepB fun b hb _ => heap_setCell_other _ _ _ _ (fun e => ?_)
    have e2 : b = g := e
    subst e2
    rcases hb with hb | hb
    · exact h.ne b rfl (blocks_mem (by rw [h.l1]; exact hk) hb)
    · omega
theorem flat_parts {vss : List (List Value)} (h : (vss.flatten.filterMap Value.ownBlock).Nodup) : (∀ i, i < vss.length → ((vss.getD i []).filterMap Value.ownBlock).Nodup) ∧ ∀ i k, i < vss.length → k < vss.length → i ≠ k → ∀ b, b ∈ (vss.getD i []).filterMap Value.ownBlock → b ∈ (vss.getD k []).filterMap Value.ownBlock → False := by
  rw [List.filterMap_flatten] at h
  obtain ⟨h1, h2⟩ := List.pairwise_flatten.1 h
  have hg : ∀ i (hi : i < vss.length), vss.getD i [] = vss[i] := fun i hi => by simp [List.getD, hi]
  have h3 := List.pairwise_iff_getElem.1 h2
  refine ⟨fun i hi => ?_, fun i k hi hk hne b hb1 hb2 => ?_⟩
  · rw [hg i hi]
    exact h1 _ (List.mem_map.2 ⟨_, List.getElem_mem hi, rfl⟩)
  · rw [hg i hi] at hb1
    rw [hg k hk] at hb2
    rcases Nat.lt_or_gt_of_ne hne with e | e
    · have := h3 i k (by simpa using hi) (by simpa using hk) e
      simp only [List.getElem_map] at this
      exact this b hb1 b hb2 rfl
    · have := h3 k i (by simpa using hk) (by simpa using hi) e
      simp only [List.getElem_map] at this
      exact this b hb2 b hb1 rfl
/-- The nodes of a branch have been marked. -/
theorem BrP.putn {B p : Nat} {W W' : World} {v : Value} {bs : List BranchD} {nvs : List Value} {vss : List (List Value)} (h : BrP B p W v bs nvs vss) (hfl : (vss.flatten.filterMap Value.ownBlock).Nodup) {i gi : Nat} (hi : i < bs.length) (hgi : (nvs.getD i nilS).ownBlock = some gi) (ns : List NodeD) (hN : NdP B p W' (nvs.getD i nilS) ns (vss.getD i [])) (hM : MkK (fun b => b = gi ∨ b ∈ (vss.getD i []).filterMap Value.ownBlock) W W') :
    BrP B p W' v (bs.set i { bs.getD i .zero with nodes := ns }) nvs vss := by
  obtain ⟨_, hdis⟩ := flat_parts hfl
  have hsb : ∀ b, b ∈ (vss.getD i []).filterMap Value.ownBlock → b < p := fun b hb => by
    obtain ⟨j, hj, he⟩ := mem_blocks hb
    exact ((h.nds i hi).2.2 j (by rw [← (h.nds i hi).1]; exact hj)).2 b he
  have hgib : gi ∈ nvs.filterMap Value.ownBlock := blocks_mem (by rw [h.l1]; exact hi) hgi
  have hgip := (h.lt gi hgib).1
  have hbr : ∀ k, br3 ((bs.set i { bs.getD i .zero with nodes := ns }).getD k .zero) (nvs.getD k nilS) = br3 (bs.getD k .zero) (nvs.getD k nilS) := fun k => by
    by_cases e : k = i
    · subst e; rw [setGetB hi]; rfl
    · rw [setGetN e]
  refine ⟨by rw [List.length_set]; exact h.l1, by rw [List.length_set]; exact h.l2, ?_, fun k hk => ?_, h.nd, h.ne⟩
  · have hC : brC (bs.set i { bs.getD i .zero with nodes := ns }) (fun k => nvs.getD k nilS) = brC bs (fun k => nvs.getD k nilS) := by
      unfold brC
      rw [List.length_set]
      exact flat_congr _ fun k _ => hbr k
    rw [List.length_set, hC]
    refine ownsRow_keep h.own fun b hb => hM.block b (ownsRow_blk h.own hb).2 fun e => ?_
    rcases e with e | e
    · subst e; exact h.ne b hb hgib
    · have := hsb b e; have := (h.vlt b hb).1; omega
  · rw [List.length_set] at hk
    by_cases e : k = i
    · subst e; rw [setGetB hi]; exact hN
    · rw [setGetN e]
      refine (h.nds k hk).keepC fun b hb hl => hM.block b hl fun e2 => ?_
      rcases hb with hb | hb <;> rcases e2 with e2 | e2
      · subst e2; exact nodup_two h.nd (by rw [h.l1]; exact hk) (by rw [h.l1]; exact hi) e hb hgi
      · have := hsb b e2; have := ((h.nds k hk).own b hb).1; omega
      · have : b < p := by
          obtain ⟨j, hj, he⟩ := mem_blocks hb
          exact ((h.nds k hk).2.2 j (by rw [← (h.nds k hk).1]; exact hj)).2 b he
        omega
      · exact hdis k i (by rw [h.l2]; exact hk) (by rw [h.l2]; exact hi) e b hb e2
end Go.Proofs.YtgbdlgogccgciaaGreatDoor
namespace Go.Proofs.YtgbdlgogccgciaaGreatDoor
open Go.RowKit
attribute [local go_sem ↓] Go.wp_at_zero Go.wp_at_succ

/- BRANCHES MARKED. -/
def kBr (bs : List BranchD) (k : Int) : Nat → Int
  | 0 => k
  | i + 1 => kN (bs.getD i .zero).nodes (kBr bs k i + 1 + 1) (bs.getD i .zero).nodes.length
def m3 (k : Int) : Bool := k % 3 == 0
def mkBr (b : BranchD) (K : Int) : BranchD := ⟨m3 K, m3 (K + 1), mkN b.nodes (K + 1 + 1)⟩
def mixB (bs : List BranchD) (k : Int) (i : Nat) : List BranchD := (List.range bs.length).map fun j => if j < i then mkBr (bs.getD j .zero) (kBr bs k j) else bs.getD j .zero
def mkB (bs : List BranchD) (k : Int) : List BranchD := mixB bs k bs.length
theorem mixB_len (bs : List BranchD) (k : Int) (i : Nat) : (mixB bs k i).length = bs.length := by simp [mixB]
theorem mixB_zero (bs : List BranchD) (k : Int) : mixB bs k 0 = bs := by
  unfold mixB
  apply List.ext_getElem
  · simp
  · intro n h1 h2
    simp [List.getD, h2]
theorem mixB_get (bs : List BranchD) (k : Int) {i : Nat} (hi : i < bs.length) : (mixB bs k i).getD i .zero = bs.getD i .zero := by
  unfold mixB
  simp [List.getD, hi]
theorem mixB_set (bs : List BranchD) (k : Int) (i : Nat) : (mixB bs k i).set i (mkBr (bs.getD i .zero) (kBr bs k i)) = mixB bs k (i + 1) := by
  unfold mixB
  apply List.ext_getElem
  · simp
  · intro n h1 h2
    rw [List.getElem_set]
    by_cases e : i = n
    · subst e; simp
    · rw [if_neg e]
      simp only [List.getElem_map, List.getElem_range]
      by_cases e2 : n < i
      · rw [if_pos e2, if_pos (by omega)]
      · rw [if_neg e2, if_neg (by omega)]
theorem BrP.put2 {B p : Nat} {W : World} {g n cap : Nat} {M : List BranchD} {nvs : List Value} {vss : List (List Value)} {i f : Nat} {n1 : BranchD} (h : BrP B p W (.slice (some ⟨g, 0, none⟩) n cap) (M.set i n1) nvs vss) (hi : i < M.length) (n' : BranchD) (u : Value) (hf : f < 3) (hn : br3 n' (nvs.getD i nilS) = (br3 n1 (nvs.getD i nilS)).set f u) (hs : n'.nodes = n1.nodes) :
    BrP B p (W.setCell ⟨g, i * 3 + f, none⟩ u) (.slice (some ⟨g, 0, none⟩) n cap) (M.set i n') nvs vss := by
  have h9 := h.put (i := i) (f := f) n' u (by rw [List.length_set]; exact hi) hf (by rw [setGetB hi]; exact hn) (by rw [setGetB hi]; exact hs)
  rw [List.set_set] at h9
  exact h9
theorem BrP.cellF {B p : Nat} {W : World} {g n cap : Nat} {bs : List BranchD} {nvs : List Value} {vss : List (List Value)} (h : BrP B p W (.slice (some ⟨g, 0, none⟩) n cap) bs nvs vss) {i f : Nat} (hi : i < bs.length) (hf : f < 3) : W.cell? ⟨g, i * 3 + f, none⟩ = (br3 (bs.getD i .zero) (nvs.getD i nilS))[f]? ∧ W.frozen? ⟨g, i * 3 + f, none⟩ = false := by
  have ho := h.own
  have hnn := h.len
  subst hnn
  exact ⟨(ho.cellAt _ (by omega)).trans (brC_get _ _ hi hf), (own_cellZ ho (by omega)).2⟩
theorem BrP.cell2 {B p : Nat} {W : World} {g n cap : Nat} {M : List BranchD} {nvs : List Value} {vss : List (List Value)} {i f : Nat} {n1 : BranchD} (h : BrP B p W (.slice (some ⟨g, 0, none⟩) n cap) (M.set i n1) nvs vss) (hi : i < M.length) (hf : f < 3) : W.cell? ⟨g, i * 3 + f, none⟩ = (br3 n1 (nvs.getD i nilS))[f]? ∧ W.frozen? ⟨g, i * 3 + f, none⟩ = false := by
  have h9 := h.cellF (i := i) (f := f) (by rw [List.length_set]; exact hi) hf
  rw [setGetB hi] at h9
  exact h9
theorem MkK.trans {S S2 : Nat → Prop} {W w1 w2 : World} (h : MkK S W w1) (h2 : MkK S2 w1 w2) (hs : ∀ b, S2 b → S b) : MkK S W w2 :=
  ⟨h2.os.trans h.os, h2.tape.trans h.tape, h2.output.trans h.output, Nat.le_trans h.size h2.size, fun k hk hn => by rw [h2.block k (Nat.lt_of_lt_of_le hk h.size) (fun e => hn (hs k e))]; exact h.block k hk hn⟩
/-- The numbers stay small. -/
structure SmK (bs : List BranchD) (k : Int) : Prop where
  few : bs.length ≤ 100000
  num : ∀ i, i ≤ bs.length → 0 ≤ kBr bs k i ∧ kBr bs k i ≤ 99999990
  nod : ∀ i, i < bs.length → (0 < (bs.getD i .zero).nodes.length ∧ (bs.getD i .zero).nodes.length ≤ 100000) ∧ (∀ j, j ≤ (bs.getD i .zero).nodes.length → 0 ≤ kN (bs.getD i .zero).nodes (kBr bs k i + 1 + 1) j ∧ kN (bs.getD i .zero).nodes (kBr bs k i + 1 + 1) j ≤ 100000000) ∧ ∀ j, j < (bs.getD i .zero).nodes.length → ((bs.getD i .zero).nodes.getD j .zero).set.length ≤ 100000
set_option maxRecDepth 100000 in
set_option maxHeartbeats 4000000 in
theorem markBranchS_ok {B p : Nat} {g n cap : Nat} {bs : List BranchD} {nvs : List Value} {vss : List (List Value)} (k : Int) (w : World) (h : BrP B p w (.slice (some ⟨g, 0, none⟩) n cap) bs nvs vss) (hfl : (vss.flatten.filterMap Value.ownBlock).Nodup) (hB : B ≤ p) (hK : SmK bs k) {T : Nat} (hT1 : g < T) (hT2 : ∀ b, b ∈ nvs.filterMap Value.ownBlock → b < T) (hT3 : p ≤ T) :
    Calls Tryz.prog 20 #[.slice (some ⟨g, 0, none⟩) n cap, .int .i64 k] w fun e w' => e = .returned (.int .i64 (kBr bs k bs.length)) ∧ BrP B p w' (.slice (some ⟨g, 0, none⟩) n cap) (mkB bs k) nvs vss ∧ MkK (fun b => B ≤ b ∧ b < T) w w' := by
  have HT2 := hid hT2
  clear hT2
  have hnn := h.len
  have HN0 : Hid (BrP B p w (.slice (some ⟨g, 0, none⟩) n cap) (mixB bs k 0) nvs vss) := by rw [mixB_zero]; exact h
  have hn2 : n ≤ 100000 := by have := hK.few; omega
  have Hnn := hid hnn
  have HK := hid hK
  have HFL := hid hfl
  rw [← hnn]
  clear h hnn hK hfl
  go_enter Tryz.func20, Tryz.ntmps20
  go_wp2
  go_loopw [1, 5] (fun kv iv wr => ∃ i : Nat, i ≤ n ∧ kv = .int .i64 (kBr bs k i) ∧ iv = .int .i64 (i : Int) ∧ Hid (BrP B p wr (.slice (some ⟨g, 0, none⟩) n cap) (mixB bs k i) nvs vss) ∧ Hid (MkK (fun b => B ≤ b ∧ b < T) w wr)) (fun _ iv _ => n - (intOf iv).toNat)
  case atStart => exact ⟨0, by omega, rfl, rfl, HN0, MkK.refl _ _⟩
  case round =>
    clear HN0
    obtain ⟨i, hi, rfl, rfl, HN, HM⟩ := hrel
    by_cases hlt : i < n
    · have hltI : (i : Int) < (n : Int) := by omega
      have hil : i < bs.length := by have := Hnn.out; omega
      have hil2 : i < (mixB bs k i).length := by rw [mixB_len]; exact hil
      obtain ⟨hK0, hK1⟩ := HK.out.num i (by omega)
      obtain ⟨⟨hq0, hq1⟩, hq2, hq3⟩ := HK.out.nod i hil
      have hgi := mixB_get bs k hil
      have hms := mixB_set bs k i
      have hnext : kBr bs k (i + 1) = kN (bs.getD i .zero).nodes (kBr bs k i + 1 + 1) (bs.getD i .zero).nodes.length := rfl
      generalize kBr bs k i = K at *
      obtain ⟨nd, hndd⟩ : ∃ nd, nd = bs.getD i .zero := ⟨_, rfl⟩
      rw [← hndd] at hnext hgi hms hq0 hq1 hq2 hq3
      have c0 : wr.cell? ⟨g, i * 3 + 0, none⟩ = some (.bool nd.bol) := by have h9 := (HN.out.cellF hil2 (f := 0) (by omega)).1; rw [hgi] at h9; exact h9
      have f0 := (HN.out.cellF hil2 (f := 0) (by omega)).2
      rw [Nat.add_zero] at c0 f0
      have HQ2 := hid hq2
      have HQ3 := hid hq3
      have HMS := hid hms
      have Hnext := hid hnext
      clear hq2 hq3 hms hnext hndd
      have hgB : B ≤ g := by have := (HN.out.vlt g rfl).1; omega
      have N1 := HN.out.put (i := i) (f := 0) { nd with bol := m3 K } (.bool (m3 K)) hil2 (by omega) (by rw [hgi]; rfl) (by rw [hgi])
      rw [Nat.add_zero] at N1
      have HN1 := hid N1
      have HM1 : Hid (MkK (fun b => B ≤ b ∧ b < T) w (wr.setCell ⟨g, i * 3, none⟩ (.bool (m3 K)))) := HM.out.cell (g := g) ⟨hgB, hT1⟩ _ _
      have hm3 : (K % 3 == 0) = m3 K := rfl
      have hm4 : ((K + 1) % 3 == 0) = m3 (K + 1) := rfl
      generalize hb3 : m3 K = b3 at *
      generalize hb4 : m3 (K + 1) = b4 at *
      have HB3 := hid hb3
      have HB4 := hid hb4
      clear N1 HN HM hgi hb3 hb4
      go_upto_region 5 with fail
      generalize wr.setCell ⟨g, i * 3, none⟩ (.bool b3) = W1 at *
      clear c0 f0
      have c1 : W1.cell? ⟨g, i * 3 + 1, none⟩ = some (.bool nd.eol) := (HN1.out.cell2 hil2 (f := 1) (by omega)).1
      have f1 := (HN1.out.cell2 hil2 (f := 1) (by omega)).2
      have HN2 := hid (HN1.out.put2 (f := 1) hil2 { nd with bol := b3, eol := b4 } (.bool b4) (by omega) rfl rfl)
      have HM2 : Hid (MkK (fun b => B ≤ b ∧ b < T) w (W1.setCell ⟨g, i * 3 + 1, none⟩ (.bool b4))) := HM1.out.cell (g := g) ⟨hgB, hT1⟩ _ _
      clear HN1 HM1
      go_upto_region 7 with fail
      generalize W1.setCell ⟨g, i * 3 + 1, none⟩ (.bool b4) = W2 at *
      clear c1 f1
      have hnv := HN2.out.nds i (by rw [List.length_set]; exact hil2)
      rw [setGetB hil2] at hnv
      have hvl : i < nvs.length := by rw [HN2.out.l1, List.length_set]; exact hil2
      have hvsl : i < vss.length := by rw [HN2.out.l2, List.length_set]; exact hil2
      obtain ⟨gi, nn, nc, hsv⟩ : ∃ gi nn nc, nvs.getD i nilS = .slice (some ⟨gi, 0, none⟩) nn nc := by
        rcases hnv.2.1.2 with ⟨_, e⟩ | ⟨g', cap', cur, e, _⟩
        · have : nd.nodes.length = 0 := e
          omega
        · exact ⟨_, _, _, e⟩
      have c2 : W2.cell? ⟨g, i * 3 + 2, none⟩ = some (.slice (some ⟨gi, 0, none⟩) nn nc) := by rw [(HN2.out.cell2 hil2 (f := 2) (by omega)).1, ← hsv]; rfl
      have hnv2 := hnv
      rw [hsv] at hnv2
      have hC := markNodeS_ok (K + 1 + 1) W2 hnv2 ((flat_parts HFL.out).1 i hvsl) HQ2.out HQ3.out hq1
      have HSV := hid hsv
      have HNV := hid hnv
      clear hnv hnv2 hsv
      go_wp2_with fail
      refine hC.mono ?_
      rintro e W3 ⟨rfl, hN3, hM3⟩
      have HN3 : Hid (BrP B p W3 (.slice (some ⟨g, 0, none⟩) n cap) (mixB bs k (i + 1)) nvs vss) := by
        have h9 := HN2.out.putn HFL.out (i := i) (gi := gi) (by rw [List.length_set]; exact hil2) (by rw [HSV.out]; rfl) (mkN nd.nodes (K + 1 + 1)) (by rw [HSV.out]; exact hN3) hM3
        rw [setGetB hil2, List.set_set] at h9
        rw [← HMS.out]
        unfold mkBr
        rw [HB3.out, HB4.out]
        exact h9
      have HM3 : Hid (MkK (fun b => B ≤ b ∧ b < T) w W3) := by
        have hgi : B ≤ gi := by have := (HNV.out.own gi (by rw [HSV.out]; rfl)).1; omega
        refine HM2.out.trans hM3 fun q e => ?_
        rcases e with e | e
        · subst e
          exact ⟨hgi, HT2.out q (blocks_mem hvl (by rw [HSV.out]; rfl))⟩
        · obtain ⟨j, hj, he⟩ := mem_blocks e
          have h8 := HNV.out.2.2 j (by rw [← HNV.out.1]; exact hj)
          have h9 := (ownsRow_blk h8.1 he).1
          have h7 := h8.2 q he
          exact ⟨h9, by omega⟩
      have HKN := Hnext
      clear hC hN3 hM3 c2 HN2
      go_wp2
      go_roundw
      case rel => exact ⟨i + 1, by omega, by rw [HKN.out], by go_num, HN3, HM3⟩
      case measure => simp [intOf]; omega
    · have hin : i = n := by omega
      subst hin
      go_wp2
      go_ret
      exact ⟨rfl, by unfold mkB; rw [← Hnn.out]; exact HN.out, HM.out⟩
end Go.Proofs.YtgbdlgogccgciaaGreatDoor
