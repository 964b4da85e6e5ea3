import Derived.Test.YthgaeaihfbiolaaDoorSpecW
import Derived.Test.YthgaeaihfbiolaaDoorRds
import Derived.Test.YthgaeaihfbiolaaDoorMsATrkN
import Derived.Test.YthgaeaihfbiolaaDoorAllT
import Derived.Test.YthgaeaihfbiolaaDoorEndFEndG
namespace Go.Proofs.YthgaeaihfbiolaaDoor
open Go.RowKit

/- THE TWO SIDES AGREE. -/
theorem nodup_count : ∀ (l : List Int), l.Nodup → ∀ x, l.count x ≤ 1
  | [], _, x => by simp
  | a :: l, h, x => by
    obtain ⟨h1, h2⟩ := List.nodup_cons.1 h
    have ih := nodup_count l h2 x
    rw [List.count_cons]
    by_cases e : a = x
    · subst e
      rw [List.count_eq_zero_of_not_mem h1]
      simp
    · have : (a == x) = false := beq_eq_false_iff_ne.2 e
      rw [this]
      simp
      exact ih
theorem count_nodup : ∀ (l : List Int), (∀ x, x ∈ l → l.count x ≤ 1) → l.Nodup
  | [], _ => List.nodup_nil
  | a :: l, h => by
    refine List.nodup_cons.2 ⟨fun hm => ?_, count_nodup l fun x hx => ?_⟩
    · have h1 := h a (List.mem_cons_self ..)
      rw [List.count_cons_self] at h1
      have := List.count_pos_iff.2 hm
      omega
    · have h1 := h x (List.mem_cons_of_mem _ hx)
      have := List.count_le_count_cons (a := x) (b := a) (l := l)
      omega

theorem grpOKs_iff (G : Int) : ∀ (gs done : List Int), grpOKs G done gs = true ↔ (∀ x, x ∈ gs → 1 ≤ x ∧ x ≤ G) ∧ (∀ x, x ∈ gs → x ∉ done) ∧ gs.Nodup ∧ ((done.length : Int) + gs.length = G)
  | [], done => by simp [grpOKs]
  | g :: gs, done => by
    unfold grpOKs
    by_cases hc : g < 1 ∨ G < g ∨ g ∈ done
    · rw [if_pos hc]
      constructor
      · intro h; cases h
      · rintro ⟨h1, h2, _, _⟩
        have a1 := h1 g (List.mem_cons_self ..)
        have a2 := h2 g (List.mem_cons_self ..)
        rcases hc with h | h | h
        · omega
        · omega
        · exact absurd h a2
    · rw [if_neg hc, grpOKs_iff G gs (g :: done)]
      constructor
      · rintro ⟨h1, h2, h3, h4⟩
        refine ⟨fun x hx => ?_, fun x hx => ?_, ?_, ?_⟩
        · rcases List.mem_cons.1 hx with rfl | hx
          · omega
          · exact h1 x hx
        · rcases List.mem_cons.1 hx with rfl | hx
          · exact fun h => hc (.inr (.inr h))
          · exact fun h => h2 x hx (List.mem_cons_of_mem _ h)
        · exact List.nodup_cons.2 ⟨fun hm => h2 g hm (List.mem_cons_self ..), h3⟩
        · simp at h4 ⊢; omega
      · rintro ⟨h1, h2, h3, h4⟩
        obtain ⟨h5, h6⟩ := List.nodup_cons.1 h3
        refine ⟨fun x hx => h1 x (List.mem_cons_of_mem _ hx), fun x hx hm => ?_, h6, ?_⟩
        · rcases List.mem_cons.1 hm with rfl | hm
          · exact h5 hx
          · exact h2 x (List.mem_cons_of_mem _ hx) hm
        · simp at h4 ⊢; omega

def cnt (gs : List Int) : Nat → Nat
  | 0 => 0
  | n + 1 => cnt gs n + gs.count ((n : Int) + 1)
def inR (n : Nat) (x : Int) : Bool := decide (1 ≤ x ∧ x ≤ n)
theorem filter_succ (n : Nat) : ∀ gs : List Int, (gs.filter (inR (n + 1))).length = (gs.filter (inR n)).length + gs.count ((n : Int) + 1)
  | [] => rfl
  | g :: gs => by
    have ih := filter_succ n gs
    rw [List.filter_cons, List.filter_cons, List.count_cons]
    by_cases e : g = (n : Int) + 1
    · have h1 : inR (n + 1) g = true := by simp [inR]; omega
      have h2 : inR n g = false := by simp [inR]; omega
      have h3 : (g == (n : Int) + 1) = true := beq_iff_eq.2 e
      rw [h1, h2, h3]
      simp
      omega
    · have h3 : (g == (n : Int) + 1) = false := beq_eq_false_iff_ne.2 e
      have h1 : inR (n + 1) g = inR n g := by simp only [inR]; rw [decide_eq_decide]; omega
      rw [h1, h3]
      by_cases h2 : inR n g = true
      · rw [if_pos h2, if_pos h2]; simp; omega
      · rw [if_neg h2, if_neg h2]; simp; omega
theorem cnt_eq (gs : List Int) : ∀ n, cnt gs n = (gs.filter (inR n)).length
  | 0 => by
    have : gs.filter (inR 0) = [] := List.filter_eq_nil_iff.2 fun x _ => by simp [inR]; omega
    rw [this]; rfl
  | n + 1 => by rw [cnt, cnt_eq gs n, filter_succ]
theorem cnt_le (gs : List Int) (h : ∀ x, gs.count x ≤ 1) : ∀ n, cnt gs n ≤ n
  | 0 => Nat.le_refl _
  | n + 1 => by have := cnt_le gs h n; have := h ((n : Int) + 1); rw [cnt]; omega
theorem cnt_all (gs : List Int) (h : ∀ x, gs.count x ≤ 1) : ∀ n, cnt gs n = n → ∀ i, i < n → gs.count ((i : Int) + 1) = 1
  | 0, _, i, hi => absurd hi (Nat.not_lt_zero _)
  | n + 1, he, i, hi => by
    have h1 := cnt_le gs h n
    have h2 := h ((n : Int) + 1)
    rw [cnt] at he
    by_cases e : i = n
    · subst e; omega
    · exact cnt_all gs h n (by omega) i (by omega)
theorem cnt_ones (gs : List Int) : ∀ n : Nat, (∀ i : Nat, i < n → gs.count ((i : Int) + 1) = 1) → cnt gs n = n
  | 0, _ => rfl
  | n + 1, h => by rw [cnt, cnt_ones gs n fun i hi => h i (by omega), h n (by omega)]

theorem groups_same (G : Int) (hG : 0 ≤ G) (gs : List Int) : grpOKs G [] gs = (((gs.length : Int) == G) && onceB G gs) := by
  obtain ⟨n, rfl⟩ := Int.eq_ofNat_of_zero_le hG
  have key : grpOKs (n : Int) [] gs = true ↔ (gs.length = n ∧ ∀ i, i < n → gs.count ((i : Int) + 1) = 1) := by
    rw [grpOKs_iff]
    constructor
    · rintro ⟨h1, _, h3, h4⟩
      have hl : gs.length = n := by simp at h4; omega
      refine ⟨hl, ?_⟩
      have hc := nodup_count gs h3
      refine cnt_all gs hc n ?_
      rw [cnt_eq, List.filter_eq_self.2 fun x hx => by have := h1 x hx; simp [inR]; omega]
      exact hl
    · rintro ⟨hl, h1⟩
      have he := cnt_ones gs n h1
      rw [cnt_eq] at he
      have hf : gs.filter (inR n) = gs := List.Sublist.eq_of_length_le List.filter_sublist (by omega)
      have hr : ∀ x, x ∈ gs → 1 ≤ x ∧ x ≤ (n : Int) := by
        intro x hx
        have := List.filter_eq_self.1 hf x hx
        simpa [inR] using this
      refine ⟨hr, fun _ _ h => by simp at h, count_nodup gs fun x hx => ?_, by simp; omega⟩
      have hx1 := hr x hx
      have := h1 (x - 1).toNat (by omega)
      rw [show (((x - 1).toNat : Nat) : Int) + 1 = x by omega] at this
      omega
  have key2 : (((gs.length : Int) == (n : Int)) && onceB (n : Int) gs) = true ↔ (gs.length = n ∧ ∀ i, i < n → gs.count ((i : Int) + 1) = 1) := by
    rw [Bool.and_eq_true, beq_iff_eq]
    unfold onceB
    rw [List.all_eq_true]
    constructor
    · rintro ⟨h1, h2⟩
      exact ⟨by omega, fun i hi => by simpa using h2 i (by simpa using hi)⟩
    · rintro ⟨h1, h2⟩
      exact ⟨by omega, fun i hi => by simpa using h2 i (by simpa using hi)⟩
  cases ha : grpOKs (n : Int) [] gs <;> cases hb : (((gs.length : Int) == (n : Int)) && onceB (n : Int) gs)
  · rfl
  · rw [key.2 (key2.1 hb)] at ha; cases ha
  · rw [key2.2 (key.1 ha)] at hb; cases hb
  · rfl

theorem liftAll_ok : ∀ bs : List BranchD, allB bs = true → liftAll bs = some (bs.map wLast)
  | [], _ => rfl
  | b :: bs, h => by
    unfold allB at h
    rw [List.all_cons, Bool.and_eq_true] at h
    obtain ⟨h1, h2⟩ := h
    rw [Bool.and_eq_true] at h1
    have ih := liftAll_ok bs h2
    have hl := (liftF_ok b.nodes h1.1 (kidsB_ar h1.1) h1.2).2
    unfold liftAll
    rw [hl, ih]
    rfl
theorem liftAll_no : ∀ bs : List BranchD, allB bs = false → liftAll bs = none
  | [], h => by simp [allB] at h
  | b :: bs, h => by
    unfold liftAll
    by_cases hb : (kidsB b.nodes && b.nodes.all nodeB) = true
    · have h2 : allB bs = false := by
        unfold allB at h ⊢
        rw [List.all_cons, hb, Bool.true_and] at h
        exact h
      rw [liftAll_no bs h2]
      cases liftF b.nodes <;> rfl
    · rw [liftF_no b.nodes (by
        cases hk : kidsB b.nodes
        · exact .inl rfl
        · right
          cases ha : b.nodes.all nodeB
          · rfl
          · rw [hk, ha] at hb; exact absurd rfl hb)]

theorem fold_cap : ∀ (st : List Int) (s : Int), 0 ≤ s → s ≤ 2001 → (∀ x, x ∈ st → 0 ≤ x) → st.foldl (fun s a => capW (s + a)) s = capW (s + st.sum)
  | [], s, h0, h1, _ => by simp [capW_le h1]
  | a :: st, s, h0, h1, h => by
    have ha := h a (List.mem_cons_self ..)
    have hc := capW_nonneg (show 0 ≤ s + a by omega)
    rw [List.foldl_cons, fold_cap st (capW (s + a)) hc.1 hc.2 fun x hx => h x (List.mem_cons_of_mem _ hx), List.sum_cons]
    have hs : 0 ≤ st.sum := by
      have : ∀ l : List Int, (∀ x, x ∈ l → 0 ≤ x) → 0 ≤ l.sum := by
        intro l
        induction l with
        | nil => intro _; simp
        | cons b l ih => intro hl; have := ih fun x hx => hl x (List.mem_cons_of_mem _ hx); have := hl b (List.mem_cons_self ..); rw [List.sum_cons]; omega
      exact this st fun x hx => h x (List.mem_cons_of_mem _ hx)
    unfold capW
    split <;> split <;> split <;> omega
theorem ruleW_sum : ∀ bs : List BranchD, ruleW bs = (bs.map wLast).sum
  | [] => rfl
  | b :: bs => by rw [ruleW, ruleW_sum bs]; simp
theorem weights_same (bs : List BranchD) (h : allB bs = true) : decide (sumCap (bs.map wLast) ≤ 2000) = decide (ruleW bs ≤ 2000) := by
  unfold sumCap
  rw [fold_cap _ 0 (by omega) (by omega) (by
    intro x hx
    obtain ⟨b, hb, rfl⟩ := List.mem_map.1 hx
    have := List.all_eq_true.1 h b hb
    rw [Bool.and_eq_true] at this
    have := wLast_bd this.1 (kidsB_ar this.1) this.2
    omega), ← ruleW_sum, Int.zero_add, decide_eq_decide]
  unfold capW
  split <;> omega

theorem rule_same (G : Int) (bs : List BranchD) : implB G bs = specB G bs := by
  unfold implB specB
  by_cases hG : 0 ≤ G ∧ G ≤ 500
  · rw [groups_same G hG.1]
    cases ha : allB bs
    · rw [liftAll_no bs ha]; simp
    · rw [liftAll_ok bs ha]
      simp only [weights_same bs ha, Bool.and_true]
      cases decide (1 ≤ bs.length ∧ bs.length ≤ 2000) <;> cases decide (0 ≤ G ∧ G ≤ 500) <;> cases decide (nodeCount bs ≤ 5000) <;> cases ((allGrp bs).length : Int) == G <;> simp
  · have : decide (0 ≤ G ∧ G ≤ 500) = false := by simpa using hG
    rw [this]
    simp
end Go.Proofs.YthgaeaihfbiolaaDoor
namespace Go.Proofs.YthgaeaihfbiolaaDoor
open Go.RowKit
attribute [local go_sem ↓] Go.wp_at_zero Go.wp_at_succ

theorem sum_step {N : Nat} {xs : List Value} {st : List Int} (h : Parts N xs st) (k : Nat) (hk : k < st.length) (hle : sumCap (st.take (k + 1)) ≤ 2000) : sumCap (st.take (k + 1)) = sumCap (st.take k) + st.getD k 0 ∧ 1 ≤ st.getD k 0 ∧ 0 ≤ sumCap (st.take k) := by
  rw [sumCap_take st k hk] at hle ⊢
  obtain ⟨t, x, _, hp⟩ := h.2 k hk
  have h1 := IsPart.facts N _ _ hp
  have h2 := sumCap_bd h k (by omega)
  unfold capW at hle ⊢
  split
  · exact ⟨rfl, h1.2.1, h2.1⟩
  · rw [if_neg (by assumption)] at hle; omega
theorem sum_pre {N : Nat} {xs : List Value} {st : List Int} (h : Parts N xs st) (hle : sumCap st ≤ 2000) : ∀ m k, k + m = st.length → sumCap (st.take k) ≤ sumCap st
  | 0, k, e => by rw [List.take_of_length_le (by omega)]; exact Int.le_refl _
  | m + 1, k, e => by
    have h1 := sum_pre h hle m (k + 1) (by omega)
    have h2 := sum_step h k (by omega) (by omega)
    omega

/-- The words of the first k branches that may stand here. -/
def MsL (bs : List BranchD) (n a e : Nat) (cl : Bool) (k : Nat) (u : Word) : Prop := ∃ j, j < k ∧ placedB (bs.getD j .zero).bol (bs.getD j .zero).eol n a e cl = true ∧ In (tOf (bs.getD j .zero).nodes ((bs.getD j .zero).nodes.length - 1)) u
theorem msL_zero (bs : List BranchD) (n a e : Nat) (cl : Bool) (u : Word) : (u = [] ∧ false = true) ↔ MsL bs n a e cl 0 u :=
  ⟨fun h => absurd h.2 (by decide), fun ⟨_, h, _⟩ => absurd h (Nat.not_lt_zero _)⟩
theorem msL_skip (bs : List BranchD) (n a e : Nat) (cl : Bool) (k : Nat) (h : placedB (bs.getD k .zero).bol (bs.getD k .zero).eol n a e cl = false) (u : Word) : MsL bs n a e cl k u ↔ MsL bs n a e cl (k + 1) u :=
  ⟨fun ⟨j, hj, hh⟩ => ⟨j, by omega, hh⟩, fun ⟨j, hj, h1, h2⟩ => by
    by_cases e : j = k
    · subst e; rw [h] at h1; cases h1
    · exact ⟨j, by omega, h1, h2⟩⟩
theorem msL_take (bs : List BranchD) (n a e : Nat) (cl : Bool) (k : Nat) (h : placedB (bs.getD k .zero).bol (bs.getD k .zero).eol n a e cl = true) (p : Pt) (hp : ∀ u, In p u ↔ In (tOf (bs.getD k .zero).nodes ((bs.getD k .zero).nodes.length - 1)) u) (u : Word) : (MsL bs n a e cl k u ∨ In p u) ↔ MsL bs n a e cl (k + 1) u :=
  ⟨fun hh => by
    rcases hh with ⟨j, hj, hh⟩ | hh
    · exact ⟨j, by omega, hh⟩
    · exact ⟨k, by omega, h, (hp u).1 hh⟩, fun ⟨j, hj, h1, h2⟩ => by
    by_cases e : j = k
    · subst e; exact .inr ((hp u).2 h2)
    · exact .inl ⟨j, by omega, h1, h2⟩⟩

/-- One branch more. -/
def AltStep (B : Nat) (w : World) (n nw bt : Nat) (mk : Nat → Nat) (f : Nat → Nat → Bool) (fr : Nat → Nat) (F : Nat → Nat → Nat) (r N ga gl : Nat) (b : Bool) (p : Pt) (M : Word → Prop) (v : Value) (W : World) : Prop :=
  ∃ (n2 ha hl : Nat) (c : Bool), v = .agg #[.bool c, .slice (some ⟨ha, 0, none⟩) nw nw, .slice (some ⟨hl, 0, none⟩) nw nw] ∧ Hid (n2 ≤ n + (N + (wPt p).toNat)) ∧ (W.cell? ⟨r, 0, none⟩ = some (.bool b) ∧ W.cell? ⟨r, 1, none⟩ = some (.slice (some ⟨ga, 0, none⟩) nw nw) ∧ W.cell? ⟨r, 2, none⟩ = some (.slice (some ⟨gl, 0, none⟩) nw nw)) ∧ Hid (W.heap[r]? = some (.cells #[.bool b, .slice (some ⟨ga, 0, none⟩) nw nw, .slice (some ⟨gl, 0, none⟩) nw nw] 50 (0, 0))) ∧
    Calls Tryd.prog 20 #[.pointer (some ⟨bt, 0, none⟩), .agg #[.bool b, .slice (some ⟨ga, 0, none⟩) nw nw, .slice (some ⟨gl, 0, none⟩) nw nw], .agg #[.bool c, .slice (some ⟨ha, 0, none⟩) nw nw, .slice (some ⟨hl, 0, none⟩) nw nw]] W fun e W5 => e = .returned (.agg #[.bool (b || c), .slice (some ⟨ga, 0, none⟩) nw nw, .slice (some ⟨gl, 0, none⟩) nw nw]) ∧ WrX B w n nw bt mk f fr F W5 n2 ga gl (b || c) (fun u => M u ∨ In p u) ∧ KU W W5
theorem alt_step {B : Nat} {w W : World} {n nw bt : Nat} {mk : Nat → Nat} {f : Nat → Nat → Bool} {fr : Nat → Nat} {F : Nat → Nat → Nat} {r N n' ga gl : Nat} {b : Bool} {p : Pt} {M : Word → Prop} {v : Value} (hT : TreeAt W v p) (hle : wPt p ≤ 2000)
    (hX : WrX B w n nw bt mk f fr F W n' ga gl b M) (hr : W.heap[r]? = some (.cells #[.bool b, .slice (some ⟨ga, 0, none⟩) nw nw, .slice (some ⟨gl, 0, none⟩) nw nw] 50 (0, 0))) (hn : n' ≤ n + N) (hN : n + (N + (wPt p).toNat) ≤ 64 * nw) :
    Calls Tryd.prog 21 #[.pointer (some ⟨bt, 0, none⟩), v] W.drew fun e W4 => ∃ v, e = .returned v ∧ AltStep B w n nw bt mk f fr F r N ga gl b p M v W4 := by
  obtain ⟨sv, fv, mk', f', fr', F', A, L, D⟩ := hX
  have hb : Below W.heap.size W W.drew := (Below.refl _ _).drew
  refine (write_ok p B n' nw bt sv fv mk' f' fr' F' W.drew v (D.tk.below hb) (TreeAt.keep (.of hb) p _ hT) hle (by omega)).mono ?_
  rintro e W4 ⟨n2, ha, hl, c, sv2, fv2, mk2, f2, fr2, F2, A', L', rfl, hk2, D2⟩
  have hr4 := D2.kp.typ r _ _ hr (by decide) (by decide) (by decide)
  obtain ⟨z0, z1, z2, -, -, -⟩ := row_threeF hr4
  exact ⟨_, rfl, n2, ha, hl, c, rfl, by show n2 ≤ _; omega, ⟨z0, z1, z2⟩, hr4, alt_ok2 (D.pair hb D2)⟩
theorem WrX.below {B : Nat} {w W W2 : World} {n nw bt : Nat} {mk : Nat → Nat} {f : Nat → Nat → Bool} {fr : Nat → Nat} {F : Nat → Nat → Nat} {n' ga gl : Nat} {b : Bool} {M : Word → Prop}
    (h : WrX B w n nw bt mk f fr F W n' ga gl b M) (hb : Below W.heap.size W W2) : WrX B w n nw bt mk f fr F W2 n' ga gl b M := by
  obtain ⟨sv, fv, mk', f', fr', F', A, L, D⟩ := h
  exact ⟨sv, fv, mk', f', fr', F', A, L, D.below hb⟩
theorem Kp.below {B : Nat} {w W : World} (h : Kp B w W) {w0 : World} (hb : Below w0.heap.size w0 w) (hB : B = w0.heap.size) : Below w0.heap.size w0 W :=
  ⟨h.os.trans hb.os, h.tape.trans hb.tape, h.output.trans hb.output, Nat.le_trans hb.size h.size, fun k hk => (h.low k (by omega)).trans (hb.block k hk)⟩
theorem ext_listM (t : ByteArray) (a b : Nat) : (t.extract a b).data.toList = (t.data.toList.drop a).take (b - a) := by
  simp [ByteArray.data_extract, List.extract]
end Go.Proofs.YthgaeaihfbiolaaDoor
