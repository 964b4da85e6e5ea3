import Derived.Test.YtgbdlgogccgciaaGreatDoorPhJPhKPhLPhM
namespace Go.Proofs.YtgbdlgogccgciaaGreatDoor
open Go.RowKit
attribute [local go_sem ↓] Go.wp_at_zero Go.wp_at_succ

/- BRANCHES' MARKS READ AGAIN; A RULE's MARKS. -/
theorem mkB_len (bs : List BranchD) (k : Int) : (mkB bs k).length = bs.length := mixB_len _ _ _
theorem mkB_get (bs : List BranchD) (k : Int) {i : Nat} (hi : i < bs.length) : (mkB bs k).getD i .zero = mkBr (bs.getD i .zero) (kBr bs k i) := by
  unfold mkB mixB
  simp [List.getD, hi]
set_option maxRecDepth 100000 in
set_option maxHeartbeats 4000000 in
theorem heldBranchS_ok {lo : Nat} {v : Value} {bs : List BranchD} (k : Int) (w : World) (h : BranchesAt lo w v (mkB bs k)) (hK : SmK bs k) :
    Calls Tryz.prog 21 #[v, .int .i64 k] w fun e w' => e = .returned (.int .i64 (kBr bs k bs.length)) ∧ w' = w := by
  obtain ⟨ao, cap, rfl, hm, hc⟩ := h
  rw [mkB_len] at hm ⊢
  have HC : Hid (∀ i, i < bs.length → ∃ b o nv, ao = some ⟨b, o, none⟩ ∧ w.cell? ⟨b, o + i * 3, none⟩ = some (.bool (m3 (kBr bs k i))) ∧ w.cell? ⟨b, o + i * 3 + 1, none⟩ = some (.bool (m3 (kBr bs k i + 1))) ∧ w.cell? ⟨b, o + i * 3 + 2, none⟩ = some nv ∧ NodesAt lo w nv (mkN (bs.getD i .zero).nodes (kBr bs k i + 1 + 1))) := fun i hi => by
    obtain ⟨b, o, e, _, _, h9⟩ := hc (by rw [mkB_len]; omega)
    have h8 := h9 i (by rw [mkB_len]; exact hi)
    rw [mkB_get bs k hi] at h8
    obtain ⟨q0, q1, nv, q2, q3⟩ := h8
    exact ⟨b, o, nv, e, q0, q1, q2, q3⟩
  have hnl := hK.few
  have HK := hid hK
  obtain ⟨n, hnn⟩ : ∃ n, n = bs.length := ⟨_, rfl⟩
  have hn2 : n ≤ 100000 := by omega
  have Hnn := hid hnn
  rw [← hnn]
  clear hc hm hK hnl hnn
  go_enter Tryz.func21, Tryz.ntmps21
  go_wp2
  go_loopw [1, 5] (fun kv iv wr => ∃ i : Nat, i ≤ n ∧ kv = .int .i64 (kBr bs k i) ∧ iv = .int .i64 (i : Int) ∧ wr = w) (fun _ iv _ => n - (intOf iv).toNat)
  case atStart => exact ⟨0, by omega, rfl, rfl, rfl⟩
  case round =>
    obtain ⟨i, hi, rfl, rfl, rfl⟩ := hrel
    by_cases hlt : i < n
    · have hltI : (i : Int) < (n : Int) := by omega
      have hil : i < bs.length := by have := Hnn.out; omega
      obtain ⟨b, o, nv, rfl, c0, c1, c2, hN⟩ := HC.out i hil
      obtain ⟨hK0, hK1⟩ := HK.out.num i (by omega)
      obtain ⟨hK2, hK3⟩ := HK.out.num (i + 1) (by omega)
      obtain ⟨⟨hq0, hq1⟩, hq2, hq3⟩ := HK.out.nod i hil
      have hC := heldNodeS_ok (kBr bs k i + 1 + 1) wr hN hq2 hq3 hq1
      have hnext : kBr bs k (i + 1) = kN (bs.getD i .zero).nodes (kBr bs k i + 1 + 1) (bs.getD i .zero).nodes.length := rfl
      rw [← hnext] at hC
      generalize hK2e : kBr bs k (i + 1) = K2 at *
      have HK2 := hid hK2e
      clear hK2e
      generalize kBr bs k i = K at *
      obtain ⟨na, ncap, hnv, _⟩ := hN
      subst hnv
      rw [mkN_len] at c2 hC
      have hm3 : (K % 3 == 0) = m3 K := rfl
      have hm4 : ((K + 1) % 3 == 0) = m3 (K + 1) := rfl
      generalize m3 K = b3 at *
      generalize m3 (K + 1) = b4 at *
      generalize (bs.getD i .zero).nodes.length = NL at *
      have hneg : ¬K2 < 0 := by omega
      clear HC hnext hq2 hq3
      go_wp2_with fail
      refine hC.mono ?_
      rintro e w2 ⟨rfl, hw2⟩
      rw [hw2]
      clear hw2 w2 hC
      go_wp2
      go_roundw
      case rel => exact ⟨i + 1, by omega, by rw [HK2.out], by go_num, trivial⟩
      case measure => simp [intOf]; omega
    · have hin : i = n := by omega
      subst hin
      go_wp2
      go_ret
      exact ⟨rfl, rfl⟩
theorem MkK.of_below {S : Nat → Prop} {W w' : World} (h : Below W.heap.size W w') : MkK S W w' := ⟨h.os, h.tape, h.output, h.size, fun k hk _ => h.block k hk⟩
set_option maxRecDepth 100000 in
set_option maxHeartbeats 1000000 in
theorem markRule_ok {B p : Nat} {g n cap : Nat} {bs : List BranchD} {nvs : List Value} {vss : List (List Value)} (k gr : Int) (w : World) (h : BrP B p w (.slice (some ⟨g, 0, none⟩) n cap) bs nvs vss) (hfl : (vss.flatten.filterMap Value.ownBlock).Nodup) (hB : B ≤ p) (hK : SmK bs k) {T : Nat} (hT1 : g < T) (hT2 : ∀ b, b ∈ nvs.filterMap Value.ownBlock → b < T) (hT3 : p ≤ T) :
    Calls Tryz.prog 7 #[.agg #[.slice (some ⟨g, 0, none⟩) n cap, .int .i64 gr], .int .i64 k] w fun e w' => e = .returned (.int .i64 (kBr bs k bs.length)) ∧ BrP B p w' (.slice (some ⟨g, 0, none⟩) n cap) (mkB bs k) nvs vss ∧ MkK (fun b => B ≤ b ∧ b < T) w w' := by
  have hC := fun W (hW : Below w.heap.size w W) => markBranchS_ok k W (h.keepB fun b _ hl => hW.block b hl) hfl hB hK hT1 hT2 hT3
  have HC := hid hC
  clear h hfl hK hC hT2
  generalize kBr bs k bs.length = KK at *
  go_enter Tryz.func7, Tryz.ntmps7
  go_wp2_with fail
  refine (HC.out _ ((Below.refl _ _).alloc (Nat.le_refl _) _)).mono ?_
  rintro e w2 ⟨rfl, hB2, hb2⟩
  have HB2 := hid hB2
  have Hb2 := hid hb2
  clear hB2 hb2 HC
  go_wp2
  go_ret
  exact ⟨rfl, HB2.out, (MkK.of_below ((Below.refl _ _).alloc (Nat.le_refl _) _)).trans Hb2.out fun _ e => e⟩
set_option maxRecDepth 100000 in
set_option maxHeartbeats 1000000 in
theorem heldRule_ok {lo : Nat} {v : Value} {bs : List BranchD} (k gr : Int) (w : World) (h : BranchesAt lo w v (mkB bs k)) (hK : SmK bs k) :
    Calls Tryz.prog 8 #[.agg #[v, .int .i64 gr], .int .i64 k] w fun e w' => e = .returned (.int .i64 (kBr bs k bs.length)) ∧ Below w.heap.size w w' := by
  have hC := fun W (hW : Below w.heap.size w W) => heldBranchS_ok k W (h.below hW) hK
  obtain ⟨hK0, hK1⟩ := hK.num bs.length (Nat.le_refl _)
  obtain ⟨ao, cap, rfl, _, _⟩ := h
  have HC := hid hC
  generalize (mkB bs k).length = ML at *
  clear hK hC
  generalize kBr bs k bs.length = KK at *
  have hneg : ¬KK < 0 := by omega
  go_enter Tryz.func8, Tryz.ntmps8
  go_wp2_with fail
  refine (HC.out _ ((Below.refl _ _).alloc (Nat.le_refl _) _)).mono ?_
  rintro e w2 ⟨rfl, hw2⟩
  rw [hw2]
  clear hw2 w2 HC
  go_wp2
  go_ret
  exact ⟨rfl, (Below.refl _ _).alloc (Nat.le_refl _) _⟩
end Go.Proofs.YtgbdlgogccgciaaGreatDoor
namespace Go.Proofs.YtgbdlgogccgciaaGreatDoor
open Go.RowKit

/- THE NUMBERS OF A RULE's MARKS STAY SMALL. -/
theorem br_nodes {g g' : Nat} {l : List Tok} {b : BranchD} (h : Br g l b g') : 0 < b.nodes.length ∧ b.nodes.length ≤ 2 * l.length ∧ ∀ x ∈ b.nodes, x.set.length ≤ 256 := by
  obtain ⟨pre, mid, suf, N, hl, hA, hN, _, _⟩ := br_parts h
  have h1 := alt_len hA
  have h2 : mid.length ≤ l.length := by rw [hl]; simp; omega
  obtain ⟨n, ns, hG, hNe⟩ := hA.gr
  have h3 := gr_nodes hG
  rw [hN]
  refine ⟨by rw [hNe]; simp; omega, by omega, fun x hx => ?_⟩
  rw [hNe, List.mem_append] at hx
  rcases hx with hx | hx
  · exact gr_set hG x hx
  · have := List.eq_of_mem_replicate hx
    subst this
    simp [seqN]
def sumN (bs : List BranchD) : Nat → Nat
  | 0 => 0
  | i + 1 => sumN bs i + (bs.getD i .zero).nodes.length
theorem sumN_mono (bs : List BranchD) {i : Nat} : ∀ j, i ≤ j → sumN bs i ≤ sumN bs j
  | 0, h => by have : i = 0 := by omega
               subst this; exact Nat.le_refl _
  | j + 1, h => by
    rcases Nat.lt_or_eq_of_le h with e | e
    · have := sumN_mono bs j (by omega : i ≤ j)
      show _ ≤ sumN bs j + _
      omega
    · rw [e]; exact Nat.le_refl _
theorem sumN_cons (b : BranchD) (bs : List BranchD) : ∀ i, sumN (b :: bs) (i + 1) = b.nodes.length + sumN bs i
  | 0 => by show 0 + _ = _ + 0; simp
  | i + 1 => by
    have := sumN_cons b bs i
    show sumN (b :: bs) (i + 1) + ((b :: bs).getD (i + 1) .zero).nodes.length = b.nodes.length + (sumN bs i + _)
    rw [this]
    have : (b :: bs).getD (i + 1) .zero = bs.getD i .zero := by simp [List.getD]
    rw [this]
    omega
theorem rl_sum {g g' : Nat} {l : List Tok} {bs : List BranchD} (h : Rl g l bs g') : sumN bs bs.length ≤ 2 * l.length ∧ ∀ b ∈ bs, 0 < b.nodes.length ∧ ∀ x ∈ b.nodes, x.set.length ≤ 256 := by
  induction h with
  | one h =>
    obtain ⟨h1, h2, h3⟩ := br_nodes h
    refine ⟨?_, fun b hb => ?_⟩
    · rw [List.length_singleton, sumN_cons]
      show _ + 0 ≤ _
      omega
    · rw [List.mem_singleton] at hb
      subst hb
      exact ⟨h1, h3⟩
  | more h _ _ ih =>
    obtain ⟨h1, h2, h3⟩ := br_nodes h
    refine ⟨?_, fun b hb => ?_⟩
    · rw [List.length_cons, sumN_cons]
      have := ih.1
      simp only [List.length_append, List.length_cons]
      omega
    · rcases List.mem_cons.1 hb with e | e
      · subst e; exact ⟨h1, h3⟩
      · exact ih.2 b e
theorem kN_bd {ns : List NodeD} {k : Int} (hS : ∀ j, j < ns.length → (ns.getD j .zero).set.length ≤ 256) : ∀ j, j ≤ ns.length → k ≤ kN ns k j ∧ kN ns k j ≤ k + 516 * (j : Int)
  | 0, _ => by show k ≤ k ∧ k ≤ _; omega
  | j + 1, h => by
    have h1 := kN_bd (k := k) hS j (by omega)
    have h2 := hS j (by omega)
    show k ≤ kN ns k j + szN _ ∧ kN ns k j + szN _ ≤ _
    unfold szN
    omega
theorem kBr_bd {bs : List BranchD} {k : Int} (hS : ∀ i, i < bs.length → ∀ j, j < (bs.getD i .zero).nodes.length → ((bs.getD i .zero).nodes.getD j .zero).set.length ≤ 256) : ∀ i, i ≤ bs.length → k ≤ kBr bs k i ∧ kBr bs k i ≤ k + 2 * (i : Int) + 516 * (sumN bs i : Int)
  | 0, _ => by show k ≤ k ∧ k ≤ k + 2 * ((0 : Nat) : Int) + 516 * ((0 : Nat) : Int); omega
  | i + 1, h => by
    have h1 := kBr_bd (k := k) hS i (by omega)
    have h2 := kN_bd (k := kBr bs k i + 1 + 1) (hS i (by omega)) _ (Nat.le_refl _)
    show k ≤ kN _ _ _ ∧ kN _ _ _ ≤ k + 2 * ((i + 1 : Nat) : Int) + 516 * ((sumN bs i + (bs.getD i .zero).nodes.length : Nat) : Int)
    omega
theorem rl_small {g : Nat} {l : List Tok} {bs : List BranchD} (h : Rl 0 l bs g) (hl : l.length ≤ 2000) : SmK bs 1 := by
  obtain ⟨hs, hb⟩ := rl_sum h
  have hbl := rl_len h
  have hmem : ∀ i, i < bs.length → bs.getD i .zero ∈ bs := fun i hi => by
    rw [show bs.getD i .zero = bs[i] by simp [List.getD, hi]]
    exact List.getElem_mem hi
  have hS : ∀ i, i < bs.length → ∀ j, j < (bs.getD i .zero).nodes.length → ((bs.getD i .zero).nodes.getD j .zero).set.length ≤ 256 := fun i hi j hj => (hb _ (hmem i hi)).2 _ (nget_mem hj)
  have hK := fun i hi => kBr_bd (k := 1) hS i hi
  have hsm : ∀ i, i ≤ bs.length → sumN bs i ≤ 4000 := fun i hi => by have := sumN_mono bs bs.length hi; omega
  refine ⟨by omega, fun i hi => by have := hK i hi; have := hsm i hi; omega, fun i hi => ⟨⟨(hb _ (hmem i hi)).1, ?_⟩, fun j hj => ?_, fun j hj => by have := hS i hi j hj; omega⟩⟩
  · have h9 := hsm (i + 1) (by omega)
    have : sumN bs (i + 1) = sumN bs i + (bs.getD i .zero).nodes.length := rfl
    omega
  · have h1 := kN_bd (k := kBr bs 1 i + 1 + 1) (hS i hi) j hj
    have h2 := hK i (by omega)
    have h3 := hsm i (by omega)
    have h9 := hsm (i + 1) (by omega)
    have : sumN bs (i + 1) = sumN bs i + (bs.getD i .zero).nodes.length := rfl
    omega
end Go.Proofs.YtgbdlgogccgciaaGreatDoor
namespace Go.Proofs.YtgbdlgogccgciaaGreatDoor
open Go.RowKit
attribute [local go_sem ↓] Go.wp_at_zero Go.wp_at_succ

/- MARKS OF A RULE WITHOUT BRANCHES. -/
theorem small_nil : SmK [] 1 := ⟨by simp, fun i hi => by have : i = 0 := by simpa using hi
                                                         subst this; show 0 ≤ (1 : Int) ∧ (1 : Int) ≤ _; omega, fun i hi => absurd hi (by simp)⟩
set_option maxRecDepth 100000 in
set_option maxHeartbeats 1000000 in
theorem markBranchS_nil (k : Int) (w : World) : Calls Tryz.prog 20 #[.slice none 0 0, .int .i64 k] w fun e w' => e = .returned (.int .i64 k) ∧ w' = w := by
  go_enter Tryz.func20, Tryz.ntmps20
  go_wp2
  go_loopw [1, 5] (fun kv iv wr => kv = .int .i64 k ∧ iv = .int .i64 0 ∧ wr = w) (fun _ _ _ => 0)
  case atStart => exact ⟨rfl, rfl, rfl⟩
  case round =>
    obtain ⟨rfl, rfl, rfl⟩ := hrel
    go_wp2
    go_ret
    exact ⟨rfl, rfl⟩
set_option maxRecDepth 100000 in
set_option maxHeartbeats 1000000 in
theorem markRule_nil (k gr : Int) (w : World) : Calls Tryz.prog 7 #[.agg #[.slice none 0 0, .int .i64 gr], .int .i64 k] w fun e w' => e = .returned (.int .i64 k) ∧ Below w.heap.size w w' := by
  go_enter Tryz.func7, Tryz.ntmps7
  go_wp2_with fail
  refine (markBranchS_nil k _).mono ?_
  rintro e w2 ⟨rfl, hw2⟩
  rw [hw2]
  clear hw2 w2
  go_wp2
  go_ret
  exact ⟨rfl, (Below.refl _ _).alloc (Nat.le_refl _) _⟩
theorem heldRule_nil (gr : Int) (w : World) : Calls Tryz.prog 8 #[.agg #[.slice none 0 0, .int .i64 gr], .int .i64 1] w fun e w' => e = .returned (.int .i64 1) ∧ Below w.heap.size w w' :=
  heldRule_ok (lo := 0) (bs := []) 1 gr w (BranchesAt.nil _ _) small_nil
end Go.Proofs.YtgbdlgogccgciaaGreatDoor
namespace Go.Proofs.YtgbdlgogccgciaaGreatDoor
open Go.RowKit

/- MARKS OF AN ANSWER. -/
theorem parse_small {s : List UInt8} {r : RuleD} {c a : Int} (h : ParseR s r c a) : SmK r.branches 1 := by
  cases h with
  | good h hl hf ho hd hR hw =>
    have hll := (lexF_ok s s.length 0 [] (by omega) (fun _ h => by cases h) (Nat.le_refl _) (Nat.zero_le _)).2.1
    rw [hl] at hll
    exact rl_small hR (by simp at hll; omega)
  | _ => exact small_nil
theorem markA_ok {B p : Nat} {v : Value} {bs : List BranchD} {nvs : List Value} {vss : List (List Value)} (gr : Int) (w : World) (h : BrP B p w v bs nvs vss) (hfl : (vss.flatten.filterMap Value.ownBlock).Nodup) (hB : B ≤ p) (hK : SmK bs 1) {T : Nat} (hT1 : ∀ b, v.ownBlock = some b → b < T) (hT2 : ∀ b, b ∈ nvs.filterMap Value.ownBlock → b < T) :
    Calls Tryz.prog 7 #[.agg #[v, .int .i64 gr], .int .i64 1] w fun e w' => e = .returned (.int .i64 (kBr bs 1 bs.length)) ∧ BrP B p w' v (mkB bs 1) nvs vss ∧ MkK (fun b => B ≤ b ∧ b < T) w w' := by
  rcases h.own.2 with ⟨rfl, h0⟩ | ⟨g, cap, cur, rfl, _⟩
  · have hb : bs = [] := List.eq_nil_of_length_eq_zero h0
    subst hb
    refine (markRule_nil 1 gr w).mono ?_
    rintro e w' ⟨rfl, hb⟩
    exact ⟨rfl, h.keepB fun b _ hl => hb.block b hl, .of_below hb⟩
  · exact markRule_ok 1 gr w h hfl hB hK (hT1 g rfl) hT2 (by have := (h.vlt g rfl).1; have := hT1 g rfl; omega)
end Go.Proofs.YtgbdlgogccgciaaGreatDoor
namespace Go.Proofs.YtgbdlgogccgciaaGreatDoor
open Go.RowKit
attribute [local go_sem ↓] Go.wp_at_zero Go.wp_at_succ

set_option maxRecDepth 100000 in
set_option maxHeartbeats 4000000 in
theorem lawParse_ok (t : ByteArray) (m : Int) (w : World) (hL : LaidE m w) : Calls Tryz.prog 3 #[.string t] w fun e w' => e = .returned (.bool true) ∧ Below w.heap.size w w' := by
  by_cases hbig : 1048576 < t.size
  · have h1 : (1048576 : Int) < (t.size : Int) := by omega
    clear hL
    go_enter Tryz.func3, Tryz.ntmps3
    go_wp2
    go_ret
    exact ⟨rfl, Below.refl _ _⟩
  have h1 : ¬(1048576 : Int) < (t.size : Int) := by omega
  obtain ⟨r, c, a, hP⟩ := parse_some t.data.toList
  have hS := specParse_ok t w hP
  have HP := hid hP
  have HL := hid hL
  have HSM := hid (parse_small hP)
  clear hP hL hbig
  go_enter Tryz.func3, Tryz.ntmps3
  go_wp2_with fail
  refine hS.mono ?_
  rintro e w1 ⟨hb1, v1, rfl, hB1⟩
  obtain ⟨ao1, cp1, hv1⟩ : ∃ ao cp, v1 = .slice ao r.branches.length cp := by obtain ⟨ao, cp, e, _⟩ := hB1; exact ⟨ao, cp, e⟩
  obtain ⟨W2, hW2⟩ : ∃ W2, W2 = w1.alloc (.cells #[v1, .int .i64 r.groups] 24) := ⟨_, rfl⟩
  have hb2 : Below w1.heap.size w1 W2 := by rw [hW2]; exact (Below.refl _ _).alloc (Nat.le_refl _) _
  have hq2 : W2.heap[w1.heap.size]? = some (.cells #[v1, .int .i64 r.groups] 24 (0, 0)) := by rw [hW2]; exact heap_alloc_new _ _
  have hbb2 := below_step hb1 hb1.size hb2
  have hI := implParse_ok t m W2 (HL.out.below hbb2) HP.out
  generalize hgr : r.groups = gr at *
  generalize hnl : r.branches.length = NL at *
  subst hv1
  have Hgr := hid hgr
  clear hS hgr hnl
  go_wp2_with fail
  try rw [← hW2]
  clear hW2
  refine hI.mono ?_
  rintro e w3 ⟨hb3, v3, p, nvs, vss, he3, hBr, hp, hnd⟩
  rw [Hgr.out] at he3
  subst he3
  obtain ⟨ao3, n3, c3, rfl⟩ : ∃ ao n cp, v3 = .slice ao n cp := by
    rcases hBr.own.2 with ⟨e, _⟩ | ⟨g, cap, _, e, _⟩
    · exact ⟨_, _, _, e⟩
    · exact ⟨_, _, _, e⟩
  obtain ⟨W4, hW4⟩ : ∃ W4, W4 = w3.alloc (.cells #[.slice ao3 n3 c3, .int .i64 gr] 24) := ⟨_, rfl⟩
  have hb4 : Below w3.heap.size w3 W4 := by rw [hW4]; exact (Below.refl _ _).alloc (Nat.le_refl _) _
  have hq4 : W4.heap[w3.heap.size]? = some (.cells #[.slice ao3 n3 c3, .int .i64 gr] 24 (0, 0)) := by rw [hW4]; exact heap_alloc_new _ _
  have hz2 : w1.heap.size < W2.heap.size := row_lt hq2
  have k13 : Below w1.heap.size w1 w3 := hb2.trans (hb3.mono (Nat.le_of_lt hz2))
  have k14 : Below w1.heap.size w1 W4 := k13.trans (hb4.mono k13.size)
  have hBr4 : BrP W2.heap.size p W4 (.slice ao3 n3 c3) r.branches nvs vss := hBr.keepB fun b _ hl => hb4.block b hl
  have hx4 : W4.heap[w1.heap.size]? = some (.cells #[.slice ao1 NL cp1, .int .i64 gr] 24 (0, 0)) := row_below (row_below hq2 hb3) hb4
  have hE := eqRule_ok gr _ _ r.branches W4 (hBr4.at (Nat.le_refl _) hp) (hB1.below k14)
  obtain ⟨y0, y1, -, -⟩ := row_twoE hq4
  obtain ⟨x0, x1, -, -⟩ := row_twoE hx4
  clear hI
  go_upto_region 5 with fail
  rw [← hW4]
  clear hW4
  go_wp2_with fail
  refine hE.mono ?_
  rintro e w5 ⟨rfl, hb5⟩
  have hBr5 : BrP W2.heap.size p w5 (.slice ao3 n3 c3) r.branches nvs vss := hBr4.keepB fun b _ hl => hb5.block b hl
  have hq5 := row_below hq4 hb5
  have hx5 := row_below hx4 hb5
  have k15 : Below w1.heap.size w1 w5 := k14.trans (hb5.mono k14.size)
  have hM := markA_ok gr w5 hBr5 hnd hp HSM.out (T := w3.heap.size) (fun b hb => (hBr.vlt b hb).2) (fun b hb => (hBr.lt b hb).2)
  obtain ⟨z0, z1, -, -⟩ := row_twoE hq5
  clear hE x0 x1 y0 y1
  go_wp2_with fail
  refine hM.mono ?_
  rintro e w6 ⟨rfl, hBr6, hk6⟩
  have hl3 := row_lt hq4
  have hsz5 := hb5.size
  have hsz4 : w3.heap.size ≤ W4.heap.size := hb4.size
  have hsz3 := hb3.size
  have hq6 : w6.heap[w3.heap.size]? = some (.cells #[.slice ao3 n3 c3, .int .i64 gr] 24 (0, 0)) := by rw [hk6.block _ (row_lt hq5) (fun e => by omega)]; exact hq5
  have hx6 : w6.heap[w1.heap.size]? = some (.cells #[.slice ao1 NL cp1, .int .i64 gr] 24 (0, 0)) := by rw [hk6.block _ (row_lt hx5) (fun e => by omega)]; exact hx5
  have k16 : Below w1.heap.size w1 w6 := ⟨hk6.os.trans k15.os, hk6.tape.trans k15.tape, hk6.output.trans k15.output, Nat.le_trans k15.size hk6.size, fun q hq => by rw [hk6.block q (by have := k15.size; omega) (fun e => by omega)]; exact k15.block q hq⟩
  have hH := heldRule_ok 1 gr w6 (hBr6.at (Nat.le_refl _) hp) HSM.out
  obtain ⟨hK0, _⟩ := HSM.out.num r.branches.length (Nat.le_refl _)
  generalize kBr r.branches 1 r.branches.length = KK at *
  have hneg : ¬KK < 0 := by omega
  obtain ⟨y0, y1, -, -⟩ := row_twoE hq6
  clear hM z0 z1
  go_wp2_with fail
  refine hH.mono ?_
  rintro e w7 ⟨rfl, hb7⟩
  have hx7 := row_below hx6 hb7
  have k17 : Below w1.heap.size w1 w7 := k16.trans (hb7.mono k16.size)
  have hbb7 := below_step hb1 hb1.size k17
  have hI := implParse_ok t m w7 (HL.out.below hbb7) HP.out
  clear hH y0 y1
  go_wp2_with fail
  refine hI.mono ?_
  rintro e w8 ⟨hb8, v8, p8, nvs8, vss8, he8, hBr8, hp8, _⟩
  rw [Hgr.out] at he8
  subst he8
  obtain ⟨ao8, n8, c8, rfl⟩ : ∃ ao n cp, v8 = .slice ao n cp := by
    rcases hBr8.own.2 with ⟨e, _⟩ | ⟨g, cap, _, e, _⟩
    · exact ⟨_, _, _, e⟩
    · exact ⟨_, _, _, e⟩
  obtain ⟨W9, hW9⟩ : ∃ W9, W9 = w8.alloc (.cells #[.slice ao8 n8 c8, .int .i64 gr] 24) := ⟨_, rfl⟩
  have hb9 : Below w8.heap.size w8 W9 := by rw [hW9]; exact (Below.refl _ _).alloc (Nat.le_refl _) _
  have hq9 : W9.heap[w8.heap.size]? = some (.cells #[.slice ao8 n8 c8, .int .i64 gr] 24 (0, 0)) := by rw [hW9]; exact heap_alloc_new _ _
  have k18 : Below w1.heap.size w1 w8 := k17.trans (hb8.mono k17.size)
  have k19 : Below w1.heap.size w1 W9 := k18.trans (hb9.mono k18.size)
  have hBr9 : BrP w7.heap.size p8 W9 (.slice ao8 n8 c8) r.branches nvs8 vss8 := hBr8.keepB fun b _ hl => hb9.block b hl
  have hx9 := row_below (row_below hx7 hb8) hb9
  have hE := eqRule_ok gr _ _ r.branches W9 (hBr9.at (Nat.le_refl _) hp8) (hB1.below k19)
  obtain ⟨y0, y1, -, -⟩ := row_twoE hq9
  obtain ⟨x0, x1, -, -⟩ := row_twoE hx9
  clear hI
  go_upto_region 16 with fail
  rw [← hW9]
  clear hW9
  go_wp2_with fail
  refine hE.mono ?_
  rintro e w10 ⟨rfl, hb10⟩
  have HB10 := hid (below_step (below_step hb1 hb1.size k19) (Nat.le_trans hb1.size k19.size) hb10)
  clear hE
  go_wp2
  go_ret
  exact ⟨rfl, HB10.out⟩
end Go.Proofs.YtgbdlgogccgciaaGreatDoor
