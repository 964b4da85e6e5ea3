import Derived.Test.YtgbdlgogccgciaaGreatDoorPeNPeP
namespace Go.Proofs.YtgbdlgogccgciaaGreatDoor
open Go.RowKit
attribute [local go_sem ↓] Go.wp_at_zero Go.wp_at_succ

/- THE RANGES OF A SET. -/
def rgC (rs : List (Int × Int)) : List Value := rs.flatMap fun r => [.int .i64 r.1, .int .i64 r.2]
theorem rgC_len (rs : List (Int × Int)) : (rgC rs).length = rs.length * 2 := by
  induction rs with
  | nil => rfl
  | cons a b ih => simp [rgC] at ih ⊢; omega
theorem rgC_app (a b : List (Int × Int)) : rgC (a ++ b) = rgC a ++ rgC b := by simp [rgC]
theorem rgC_get (rs : List (Int × Int)) (i : Nat) (h : i < rs.length) : (rgC rs)[i * 2]? = some (.int .i64 (rs.getD i (0, 0)).1) ∧ (rgC rs)[i * 2 + 1]? = some (.int .i64 (rs.getD i (0, 0)).2) := by
  induction rs generalizing i with
  | nil => simp at h
  | cons a b ih =>
    cases i with
    | zero => exact ⟨rfl, rfl⟩
    | succ i =>
      have := ih i (by simpa using h)
      rw [show (i + 1) * 2 = i * 2 + 2 by omega]
      exact this
theorem rgC_hi (l : List (Int × Int)) (a b c : Int) : rgC (l ++ [(a, c)]) = (rgC (l ++ [(a, b)])).set (l.length * 2 + 1) (.int .i64 c) := by
  rw [rgC_app, rgC_app, List.set_append_right _ _ (by rw [rgC_len]; omega), rgC_len, Nat.add_sub_cancel_left]
  rfl
theorem rngF_len (f : Nat → Bool) : ∀ c, (rngF f c).length ≤ c
  | 0 => Nat.le_refl _
  | c + 1 => by
    have := rngF_len f c
    show (rngStep f (rngF f c) c).length ≤ c + 1
    unfold rngStep
    split
    · split
      · simp; omega
      · simp; omega
    · omega
/-- Behind a byte of the set there is a last range, and it ends there. -/
theorem rngF_last (f : Nat → Bool) (c : Nat) (h : f c = true) : ∃ l a, rngF f (c + 1) = l ++ [(a, (c : Int))] := by
  show ∃ l a, rngStep f (rngF f c) c = _
  unfold rngStep
  rw [if_pos h]
  split
  · exact ⟨_, _, rfl⟩
  · exact ⟨_, _, rfl⟩
theorem rngF_no {f : Nat → Bool} {c : Nat} (h : f c = false) : rngF f (c + 1) = rngF f c := by
  show rngStep f (rngF f c) c = _
  unfold rngStep
  rw [if_neg (by rw [h]; decide)]
theorem rngF_new {f : Nat → Bool} {c : Nat} (h : f c = true) (h2 : ¬(0 < c ∧ f (c - 1) = true)) : rngF f (c + 1) = rngF f c ++ [((c : Int), (c : Int))] := by
  show rngStep f (rngF f c) c = _
  unfold rngStep
  rw [if_pos h, if_neg h2]
theorem rngF_on {f : Nat → Bool} {c : Nat} {l : List (Int × Int)} {a b : Int} (h : f c = true) (h2 : 0 < c ∧ f (c - 1) = true) (hl : rngF f c = l ++ [(a, b)]) : rngF f (c + 1) = l ++ [(a, (c : Int))] := by
  show rngStep f (rngF f c) c = _
  unfold rngStep
  rw [if_pos h, if_pos h2, hl]
  simp
theorem infoRngP : (Tryz.prog.info? 99).map (fun i => (i.zero, i.size, i.bytes)) = some (some (.agg #[.int .i64 0, .int .i64 0]), 2, 16) := by kernel_rfl
/-- A slice of ranges of the call's own. -/
def RngO (B : Nat) (W : World) (v : Value) (rs : List (Int × Int)) : Prop := W.ownsRow B 99 2 v rs.length (rgC rs)

theorem own_shape {W : World} {base : Nat} {e : TypeId} {size : Nat} {v : Value} {k : Nat} {xs : List Value} (h : W.ownsRow base e size v (k + 1) xs) : ∃ g cap, v = .slice (some ⟨g, 0, none⟩) (k + 1) cap := by
  rcases h.2 with ⟨_, h0⟩ | ⟨g, cap, _, hv, _⟩
  · omega
  · exact ⟨g, cap, hv⟩

set_option maxRecDepth 100000 in
set_option maxHeartbeats 1000000 in
theorem l1Ranges_ok {G : Nat} {f : Nat → Bool} (w : World) (hG : BRow w G f) :
    Calls Tryz.prog 28 #[.slice (some ⟨G, 0, none⟩) 256 256] w fun e w' => ∃ v, e = .returned v ∧ RngO w.heap.size w' v (rngF f 256) ∧ Below w.heap.size w w' := by
  obtain ⟨iR, hjR, hyR0, hyR1, hyR2⟩ := info_parts infoRngP
  have hGl := row_lt hG
  go_enter Tryz.func28, Tryz.ntmps28
  go_wp2
  go_loopw [3, 4] (fun v i wr => ∃ c : Nat, c ≤ 256 ∧ i = .int .i64 (c : Int) ∧ Below w.heap.size w wr ∧ Hid (RngO w.heap.size wr v (rngF f c))) (fun _ i _ => 256 - (intOf i).toNat)
  case atStart => exact ⟨0, by omega, rfl, (Below.refl _ _).alloc (Nat.le_refl _) _, ownsRow_newZ w _ 2 _ _ (Nat.le_refl _) rfl⟩
  case round =>
    obtain ⟨c, hc, rfl, hb, HO⟩ := hrel
    by_cases hlt : c < 256
    case neg =>
      have hce : c = 256 := by omega
      subst hce
      go_wp2
      go_ret
      exact ⟨_, rfl, HO.out, hb⟩
    have hGr : BRow wr G f := (hb.block G hGl).trans hG
    have c0 := hGr.get hlt
    have hs := hb.size
    cases hf : f c with
    | false =>
      rw [hf] at c0
      have HN : Hid _ := rngF_no hf
      go_wp2
      go_roundw
      case rel => exact ⟨c + 1, by omega, by go_num, hb, by rw [HN.out]; exact HO⟩
      case measure => simp [intOf]; omega
    | true =>
      rw [hf] at c0
      have hlen := rngF_len f c
      by_cases h2 : 0 < c ∧ f (c - 1) = true
      · obtain ⟨h3, h4⟩ := h2
        have c1 := hGr.get (i := c - 1) (by omega)
        rw [h4] at c1
        obtain ⟨l, a, hl⟩ := rngF_last f (c - 1) h4
        rw [show c - 1 + 1 = c by omega] at hl
        have HN : Hid _ := rngF_on hf ⟨h3, h4⟩ hl
        have HO2 := HO.out
        rw [hl] at HO2
        have hll : (l ++ [(a, ((c - 1 : Nat) : Int))]).length = l.length + 1 := by simp
        unfold RngO at HO2
        rw [hll] at HO2
        obtain ⟨g, cap, hv⟩ := own_shape HO2
        subst hv
        have hlc : l.length + 1 ≤ 256 := by rw [hl, hll] at hlen; omega
        have hj : l.length * 2 + 1 < (l.length + 1) * 2 := by omega
        obtain ⟨u, cu⟩ := own_cell HO2 hj
        have fu := HO2.frozenAt (l.length * 2 + 1)
        have HP : Hid (RngO w.heap.size (wr.setCell ⟨g, l.length * 2 + 1, none⟩ (.int .i64 (c : Int))) (.slice (some ⟨g, 0, none⟩) (l.length + 1) cap) (rngF f (c + 1))) := by
          show RngO _ _ _ _
          unfold RngO
          rw [HN.out, show (l ++ [(a, (c : Int))]).length = l.length + 1 by simp, rgC_hi l a ((c - 1 : Nat) : Int) (c : Int)]
          exact (HO2.stored (l.length * 2 + 1) (.int .i64 (c : Int))).1
        have hgb : w.heap.size ≤ g := (HO2.lt g rfl).1
        have i1 : (0 : Int) < (c : Int) := by omega
        have i2 : ((c : Int) - 1).toNat = c - 1 := by omega
        have i3 : (0 : Int) ≤ (c : Int) - 1 := by omega
        have i4 : (c : Int) - 1 < 256 := by omega
        have i5 : (0 : Int) ≤ ((l.length + 1 : Nat) : Int) - 1 := by omega
        have i6 : (((l.length + 1 : Nat) : Int) - 1).toNat = l.length := by omega
        have i7 : ((l.length + 1 : Nat) : Int) - 1 < ((l.length + 1 : Nat) : Int) := by omega
        generalize hL : l.length = L at *
        clear HO2 hl hll HN hlen HO
        go_wp2
        go_roundw
        case rel => exact ⟨c + 1, by omega, by go_num, hb.setCell (by exact hgb) _, HP⟩
        case measure => simp [intOf]; omega
      · by_cases h3 : 0 < c
        case neg =>
          have i1 : ¬(0 : Int) < (c : Int) := by omega
          have HN : Hid _ := rngF_new hf h2
          clear h2
          obtain ⟨N, hN⟩ : ∃ N, N = (rngF f c).length := ⟨_, rfl⟩
          have hN2 : N ≤ 256 := by omega
          have HOX : Hid (wr.ownsRow w.heap.size 99 2 u3 N (rgC (rngF f c))) := by rw [hN]; exact HO.out
          have HNN : Hid _ := hN
          clear hN hlen
          go_wp2_with (at_builtin; refine wpList_append_szW rfl (.tmp 31) (.tmp 35) 65 rfl wr #[.int .i64 (c : Int), .int .i64 (c : Int)] 99 rfl wr.heap.size rfl w.heap.size iR _ 2 16 Tryz.underlying65 hjR hyR0 hyR1 hyR2 rfl (by omega) _ N _ rfl HOX.out rfl rfl (by simp [Value.oneCell']) (by omega) (by omega) hs ?_; intro g' cap' w4 own4 grow4 at4)
          have HP : Hid (RngO w.heap.size w4 (.slice (some ⟨g', 0, none⟩) (N + 1) cap') (rngF f (c + 1))) := by
            show RngO _ _ _ _
            unfold RngO
            rw [HN.out, rgC_app, List.length_append, ← HNN.out]
            exact own4
          have hb4 : Below w.heap.size w w4 := hb.grown grow4 hs (fun k hk => (ownsRow_blk HOX.out hk).1)
          clear own4 grow4 at4
          go_wp2
          go_roundw
          case rel => exact ⟨c + 1, by omega, by go_num, hb4, HP⟩
          case measure => simp [intOf]; omega
        have h4 : f (c - 1) = false := by cases h : f (c - 1); rfl; exact absurd ⟨h3, h⟩ h2
        have i1 : (0 : Int) < (c : Int) := by omega
        have i2 : ((c : Int) - 1).toNat = c - 1 := by omega
        have i3 : (0 : Int) ≤ (c : Int) - 1 := by omega
        have i4 : (c : Int) - 1 < 256 := by omega
        have c1 := hGr.get (i := c - 1) (by omega)
        rw [h4] at c1
        have HN : Hid _ := rngF_new hf h2
        clear h2
        obtain ⟨N, hN⟩ : ∃ N, N = (rngF f c).length := ⟨_, rfl⟩
        have hN2 : N ≤ 256 := by omega
        have HOX : Hid (wr.ownsRow w.heap.size 99 2 u3 N (rgC (rngF f c))) := by rw [hN]; exact HO.out
        have HNN : Hid _ := hN
        clear hN hlen
        go_wp2_with (at_builtin; refine wpList_append_szW rfl (.tmp 31) (.tmp 35) 65 rfl wr #[.int .i64 (c : Int), .int .i64 (c : Int)] 99 rfl wr.heap.size rfl w.heap.size iR _ 2 16 Tryz.underlying65 hjR hyR0 hyR1 hyR2 rfl (by omega) _ N _ rfl HOX.out rfl rfl (by simp [Value.oneCell']) (by omega) (by omega) hs ?_; intro g' cap' w4 own4 grow4 at4)
        have HP : Hid (RngO w.heap.size w4 (.slice (some ⟨g', 0, none⟩) (N + 1) cap') (rngF f (c + 1))) := by
          show RngO _ _ _ _
          unfold RngO
          rw [HN.out, rgC_app, List.length_append, ← HNN.out]
          exact own4
        have hb4 : Below w.heap.size w w4 := hb.grown grow4 hs (fun k hk => (ownsRow_blk HOX.out hk).1)
        clear own4 grow4 at4
        go_wp2
        go_roundw
        case rel => exact ⟨c + 1, by omega, by go_num, hb4, HP⟩
        case measure => simp [intOf]; omega
end Go.Proofs.YtgbdlgogccgciaaGreatDoor
namespace Go.Proofs.YtgbdlgogccgciaaGreatDoor
open Go.RowKit
attribute [local go_sem ↓] Go.wp_at_zero Go.wp_at_succ

/- NODES IN MEMORY, WHOSE BLOCKS ARE AMONG U. -/
def RngU (U : Nat → Prop) (W : World) (v : Value) (rs : List (Int × Int)) : Prop := ∃ ao cap, v = .slice ao rs.length cap ∧ rs.length ≤ cap ∧ cap ≤ maxLen ∧
  (0 < rs.length → ∃ b, ao = some ⟨b, 0, none⟩ ∧ U b ∧ b < W.heap.size ∧ ∀ j u, (rgC rs)[j]? = some u → W.cell? ⟨b, j, none⟩ = some u)
def nd5 (n : NodeD) (s : Value) : List Value := [.int .i64 n.kind, s, .int .i64 n.min, .int .i64 n.max, .int .i64 n.group]
def ndC (ns : List NodeD) (sv : Nat → Value) : List Value := (List.range ns.length).flatMap fun k => nd5 (ns.getD k .zero) (sv k)
theorem ndC_len (ns : List NodeD) (sv : Nat → Value) : (ndC ns sv).length = ns.length * 5 := flat_len (f := fun k => nd5 (ns.getD k .zero) (sv k)) (fun _ => rfl) _
theorem ndC_get (ns : List NodeD) (sv : Nat → Value) {k j : Nat} (hk : k < ns.length) (hj : j < 5) : (ndC ns sv)[k * 5 + j]? = (nd5 (ns.getD k .zero) (sv k))[j]? := flat_get (f := fun k => nd5 (ns.getD k .zero) (sv k)) (sz := 5) (fun _ => rfl) _ _ _ hk hj
theorem nget_app {l : List NodeD} (m : List NodeD) {k : Nat} (h : k < l.length) : (l ++ m).getD k .zero = l.getD k .zero := by simp [List.getD, List.getElem?_append_left h]
theorem nget_app2 (l m : List NodeD) (k : Nat) : (l ++ m).getD (l.length + k) .zero = m.getD k .zero := by
  simp only [List.getD]
  rw [List.getElem?_append_right (by omega), Nat.add_sub_cancel_left]
/-- Two functions, one behind the other. -/
def svJ (n : Nat) (s1 s2 : Nat → Value) : Nat → Value := fun k => if k < n then s1 k else s2 (k - n)
theorem ndC_join : ∀ (b a : List NodeD) (s1 s2 : Nat → Value), ndC (a ++ b) (svJ a.length s1 s2) = ndC a s1 ++ ndC b s2 := by
  intro b a s1 s2
  have h1 : ∀ k, k < a.length → nd5 ((a ++ b).getD k .zero) (svJ a.length s1 s2 k) = nd5 (a.getD k .zero) (s1 k) := fun k hk => by
    rw [nget_app _ hk]; unfold svJ; rw [if_pos hk]
  have h2 : ∀ k, nd5 ((a ++ b).getD (a.length + k) .zero) (svJ a.length s1 s2 (a.length + k)) = nd5 (b.getD k .zero) (s2 k) := fun k => by
    rw [nget_app2]; unfold svJ; rw [if_neg (by omega), Nat.add_sub_cancel_left]
  have h3 : ∀ m, (List.range (a.length + m)).flatMap (fun k => nd5 ((a ++ b).getD k .zero) (svJ a.length s1 s2 k)) = (List.range a.length).flatMap (fun k => nd5 (a.getD k .zero) (s1 k)) ++ (List.range m).flatMap (fun k => nd5 (b.getD k .zero) (s2 k)) := by
    intro m
    induction m with
    | zero => rw [Nat.add_zero, flat_congr _ h1]; simp
    | succ m ih => rw [← Nat.add_assoc, flat_succ, ih, flat_succ, h2, List.append_assoc]
  unfold ndC
  rw [List.length_append]
  exact h3 b.length
/-- Nodes that can be read. -/
def NdU (U : Nat → Prop) (W : World) (v : Value) (ns : List NodeD) : Prop := ∃ b cap sv, v = .slice (some ⟨b, 0, none⟩) ns.length cap ∧ ns.length ≤ cap ∧ cap ≤ maxLen ∧ U b ∧ b < W.heap.size ∧
  (∀ j u, (ndC ns sv)[j]? = some u → W.cell? ⟨b, j, none⟩ = some u) ∧ ∀ k, k < ns.length → RngU U W (sv k) (ns.getD k .zero).set
/-- Nodes in a row of the call's own, from block B on; the ranges lie elsewhere. -/
def NdO (B : Nat) (U : Nat → Prop) (W : World) (v : Value) (ns : List NodeD) : Prop := ∃ sv, W.ownsRow B 67 5 v ns.length (ndC ns sv) ∧ ∀ k, k < ns.length → RngU (fun b => U b ∧ v.ownBlock ≠ some b) W (sv k) (ns.getD k .zero).set
theorem RngU.keep {U : Nat → Prop} {W W' : World} {v : Value} {rs : List (Int × Int)} (h : RngU U W v rs) (hs : W.heap.size ≤ W'.heap.size) (hk : ∀ b, U b → b < W.heap.size → W'.heap[b]? = W.heap[b]?) : RngU U W' v rs := by
  obtain ⟨ao, cap, rfl, h1, h2, h3⟩ := h
  refine ⟨ao, cap, rfl, h1, h2, fun h0 => ?_⟩
  obtain ⟨b, rfl, hU, hb, hc⟩ := h3 h0
  exact ⟨b, rfl, hU, by omega, fun j u hu => by rw [World.cell?_of_block (w := W) (hk b hU hb)]; exact hc j u hu⟩
theorem RngU.mono {U U' : Nat → Prop} {W : World} {v : Value} {rs : List (Int × Int)} (h : RngU U W v rs) (hU : ∀ b, U b → b < W.heap.size → U' b) : RngU U' W v rs := by
  obtain ⟨ao, cap, rfl, h1, h2, h3⟩ := h
  refine ⟨ao, cap, rfl, h1, h2, fun h0 => ?_⟩
  obtain ⟨b, rfl, hu, hb, hc⟩ := h3 h0
  exact ⟨b, rfl, hU b hu hb, hb, hc⟩
theorem RngU.nil (U : Nat → Prop) (W : World) : RngU U W (.slice none 0 0) [] := ⟨none, 0, rfl, Nat.le_refl _, Nat.zero_le _, fun h => absurd h (by simp)⟩
theorem RngO.to {B : Nat} {W : World} {v : Value} {rs : List (Int × Int)} (h : RngO B W v rs) {U : Nat → Prop} (hU : ∀ b, v.ownBlock = some b → U b) : RngU U W v rs := by
  rcases h.2 with ⟨rfl, h0⟩ | ⟨g, cap, cur, rfl, hg, hh, h1, h2, h3, h4⟩
  · have : rs = [] := List.eq_nil_of_length_eq_zero h0
    subst this
    exact RngU.nil _ _
  · refine ⟨_, cap, rfl, h1, h2, fun _ => ⟨g, rfl, hU g rfl, row_lt hh, fun j u hu => ?_⟩⟩
    have hj : j < rs.length * 2 := by
      have := (List.getElem?_eq_some_iff.1 hu).1
      rw [rgC_len] at this
      exact this
    have := World.ownsRow.cellAt (show W.ownsRow B 99 2 (.slice (some ⟨g, 0, none⟩) rs.length cap) rs.length (rgC rs) from h) j hj
    rw [this, hu]
theorem NdU.keep {U : Nat → Prop} {W W' : World} {v : Value} {ns : List NodeD} (h : NdU U W v ns) (hs : W.heap.size ≤ W'.heap.size) (hk : ∀ b, U b → b < W.heap.size → W'.heap[b]? = W.heap[b]?) : NdU U W' v ns := by
  obtain ⟨b, cap, sv, rfl, h1, h2, hU, hb, hc, hr⟩ := h
  exact ⟨b, cap, sv, rfl, h1, h2, hU, by omega, fun j u hu => by rw [World.cell?_of_block (w := W) (hk b hU hb)]; exact hc j u hu, fun k hk2 => (hr k hk2).keep hs hk⟩
theorem NdU.mono {U U' : Nat → Prop} {W : World} {v : Value} {ns : List NodeD} (h : NdU U W v ns) (hU : ∀ b, U b → b < W.heap.size → U' b) : NdU U' W v ns := by
  obtain ⟨b, cap, sv, rfl, h1, h2, hu, hb, hc, hr⟩ := h
  exact ⟨b, cap, sv, rfl, h1, h2, hU b hu hb, hb, hc, fun k hk2 => (hr k hk2).mono hU⟩
theorem NdU.below {U : Nat → Prop} {W W' : World} {v : Value} {ns : List NodeD} (h : NdU U W v ns) (hb : Below W.heap.size W W') : NdU U W' v ns := h.keep hb.size fun b _ hl => hb.block b hl
theorem NdO.to {B : Nat} {U U' : Nat → Prop} {W : World} {v : Value} {ns : List NodeD} (h : NdO B U W v ns) (h0 : 0 < ns.length) (hU : ∀ b, v.ownBlock = some b ∨ U b → b < W.heap.size → U' b) : NdU U' W v ns := by
  obtain ⟨sv, ho, hr⟩ := h
  rcases ho.2 with ⟨_, h1⟩ | ⟨g, cap, cur, rfl, hg, hh, h1, h2, h3, h4⟩
  · omega
  · refine ⟨g, cap, sv, rfl, h1, h2, hU g (.inl rfl) (row_lt hh), row_lt hh, fun j u hu => ?_, fun k hk => (hr k hk).mono fun b hb hl => hU b (.inr hb.1) hl⟩
    have hj : j < ns.length * 5 := by
      have := (List.getElem?_eq_some_iff.1 hu).1
      rw [ndC_len] at this
      exact this
    rw [ho.cellAt j hj, hu]
theorem NdO.mono {B : Nat} {U U' : Nat → Prop} {W : World} {v : Value} {ns : List NodeD} (h : NdO B U W v ns) (hU : ∀ b, U b → b < W.heap.size → U' b) : NdO B U' W v ns := by
  obtain ⟨sv, ho, hr⟩ := h
  exact ⟨sv, ho, fun k hk => (hr k hk).mono fun b hb hl => ⟨hU b hb.1 hl, hb.2⟩⟩
theorem NdO.keep {B : Nat} {U : Nat → Prop} {W W' : World} {v : Value} {ns : List NodeD} (h : NdO B U W v ns) (hs : W.heap.size ≤ W'.heap.size) (hk : ∀ b, (v.ownBlock = some b ∨ U b) → b < W.heap.size → W'.heap[b]? = W.heap[b]?) : NdO B U W' v ns := by
  obtain ⟨sv, ho, hr⟩ := h
  exact ⟨sv, ownsRow_keep ho fun b hb => hk b (.inl hb) (ownsRow_blk ho hb).2, fun k hk2 => (hr k hk2).keep hs fun b hb hl => hk b (.inr hb.1) hl⟩
theorem NdO.below {B : Nat} {U : Nat → Prop} {W W' : World} {v : Value} {ns : List NodeD} (h : NdO B U W v ns) (hb : Below W.heap.size W W') : NdO B U W' v ns := h.keep hb.size fun b _ hl => hb.block b hl
theorem NdO.new (w : World) (B H : Nat) (U : Nat → Prop) (hB : B ≤ H) (hH : w.heap.size = H) : NdO B U (w.alloc (.cells #[] 67)) (.slice (some ⟨H, 0, none⟩) 0 0) [] :=
  ⟨fun _ => .slice none 0 0, ownsRow_newZ w _ 5 B H hB hH, fun k h => absurd h (by simp)⟩
/-- More nodes appended. -/
theorem NdO.more {B : Nat} {U : Nat → Prop} {W w' : World} {v : Value} {ns ms : List NodeD} {sv s2 : Nat → Value} {g' cap' : Nat} (hr : ∀ k, k < ns.length → RngU (fun b => U b ∧ v.ownBlock ≠ some b) W (sv k) (ns.getD k .zero).set)
    (h2 : ∀ k, k < ms.length → RngU (fun b => U b ∧ v.ownBlock ≠ some b) W (s2 k) (ms.getD k .zero).set)
    (ho : w'.ownsRow B 67 5 (.slice (some ⟨g', 0, none⟩) (ns.length + ms.length) cap') (ns.length + ms.length) (ndC ns sv ++ ndC ms s2))
    (hg : W.grownBy w' v.ownBlock) (hat : v.ownBlock = some g' ∨ W.heap.size ≤ g') : NdO B U w' (.slice (some ⟨g', 0, none⟩) (ns.length + ms.length) cap') (ns ++ ms) := by
  have key : ∀ s rs, RngU (fun b => U b ∧ v.ownBlock ≠ some b) W s rs → RngU (fun b => U b ∧ (Value.slice (some ⟨g', 0, none⟩) (ns.length + ms.length) cap').ownBlock ≠ some b) w' s rs := by
    intro s rs h
    have h3 := h.keep hg.size (fun b hb hl => hg.block b hl (fun e => hb.2 e.symm))
    have h4 : RngU (fun b => (U b ∧ v.ownBlock ≠ some b) ∧ b < W.heap.size) W s rs := h.mono fun b hb hl => ⟨hb, hl⟩
    have h5 := h4.keep hg.size (fun b hb hl => hg.block b hl (fun e => hb.1.2 e.symm))
    refine h5.mono fun b hb _ => ⟨hb.1.1, fun e => ?_⟩
    have e2 : g' = b := by simpa [Value.ownBlock] using e
    subst e2
    rcases hat with h | h
    · exact hb.1.2 h
    · have := hb.2; omega
  refine ⟨svJ ns.length sv s2, by rw [ndC_join, List.length_append]; exact ho, fun k hk => ?_⟩
  unfold svJ
  by_cases e : k < ns.length
  · rw [if_pos e, nget_app _ e]
    exact key _ _ (hr k e)
  · rw [if_neg e]
    have hk2 : k - ns.length < ms.length := by simp at hk; omega
    have : (ns ++ ms).getD k .zero = ms.getD (k - ns.length) .zero := by
      have := nget_app2 ns ms (k - ns.length)
      rw [show ns.length + (k - ns.length) = k by omega] at this
      exact this
    rw [this]
    exact key _ _ (h2 _ hk2)
theorem infoNodeP : (Tryz.prog.info? 67).map (fun i => (i.zero, i.size, i.bytes)) = some (some (.agg #[.int .i64 0, .slice none 0 0, .int .i64 0, .int .i64 0, .int .i64 0]), 5, 56) := by kernel_rfl
theorem nd5_one (n : NodeD) (s : Value) (h : s.oneCell' = true) : ∀ u ∈ nd5 n s, u.oneCell' = true := by
  intro u hu
  simp [nd5] at hu
  rcases hu with rfl | rfl | rfl | rfl | rfl <;> first | rfl | exact h
theorem RngU.one {U : Nat → Prop} {W : World} {v : Value} {rs : List (Int × Int)} (h : RngU U W v rs) : v.oneCell' = true := by obtain ⟨ao, cap, rfl, _⟩ := h; rfl
theorem ndC_one {ns : List NodeD} {sv : Nat → Value} (h : ∀ k, k < ns.length → (sv k).oneCell' = true) : ∀ u ∈ ndC ns sv, u.oneCell' = true := by
  intro u hu
  unfold ndC at hu
  rw [List.mem_flatMap] at hu
  obtain ⟨k, hk, hu⟩ := hu
  exact nd5_one _ _ (h k (List.mem_range.1 hk)) u hu
end Go.Proofs.YtgbdlgogccgciaaGreatDoor
namespace Go.Proofs.YtgbdlgogccgciaaGreatDoor
open Go.RowKit
attribute [local go_sem ↓] Go.wp_at_zero Go.wp_at_succ

/- PARTS JOINED. -/
structure PtU (U : Nat → Prop) (W : World) (G O : Nat) (parts : List (List NodeD)) (pv : Nat → Value) : Prop where
  lt : G < W.heap.size
  cel : ∀ k, k < parts.length → W.cell? ⟨G, O + k, none⟩ = some (pv k)
  nds : ∀ k, k < parts.length → NdU U W (pv k) (parts.getD k [])
  pos : ∀ k, k < parts.length → 0 < (parts.getD k []).length
def kindN (k : Int) : NodeD := ⟨k, [], 0, 0, 0⟩
theorem flatten_take {parts : List (List NodeD)} {k : Nat} (h : k < parts.length) : (parts.take (k + 1)).flatten = (parts.take k).flatten ++ parts.getD k [] := by
  rw [List.take_succ_eq_append_getElem h, List.flatten_append, List.getD_eq_getElem?_getD, List.getElem?_eq_getElem h]
  simp
theorem flatten_take_le (parts : List (List NodeD)) (k : Nat) : (parts.take k).flatten.length ≤ parts.flatten.length := by
  have : parts.flatten = (parts.take k).flatten ++ (parts.drop k).flatten := by rw [← List.flatten_append, List.take_append_drop]
  rw [this, List.length_append]
  omega
set_option maxRecDepth 100000 in
set_option maxHeartbeats 1000000 in
theorem l1Join_ok {U : Nat → Prop} {G O c : Nat} {parts : List (List NodeD)} {pv : Nat → Value} (kind : Int) (w : World) (h : PtU U w G O parts pv) (hn : parts.length ≤ 100000) (hl : parts.flatten.length ≤ 100000) :
    Calls Tryz.prog 27 #[.slice (some ⟨G, O, none⟩) parts.length c, .int .i64 kind] w fun e w' => ∃ v, e = .returned v ∧ NdO w.heap.size (fun b => U b ∧ b < w.heap.size) w' v (parts.flatten ++ List.replicate (parts.length - 1) (kindN kind)) ∧ Below w.heap.size w w' := by
  obtain ⟨iN, hjN, hyN0, hyN1, hyN2⟩ := info_parts infoNodeP
  obtain ⟨n, hnn⟩ : ∃ n, n = parts.length := ⟨_, rfl⟩
  have hn2 : n ≤ 100000 := by omega
  have HNN : Hid _ := hnn
  rw [← hnn]
  clear hnn hn
  go_enter Tryz.func27, Tryz.ntmps27
  go_wp2
  go_loopw [5, 12] (fun av i wr => ∃ k : Nat, k ≤ n ∧ i = .int .i64 (k : Int) ∧ Below w.heap.size w wr ∧ Hid (NdO w.heap.size (fun b => U b ∧ b < w.heap.size) wr av (parts.take k).flatten)) (fun _ i _ => n - (intOf i).toNat)
  case atStart => exact ⟨0, by omega, rfl, (Below.refl _ _).alloc (Nat.le_refl _) _, NdO.new w _ _ _ (Nat.le_refl _) rfl⟩
  case round =>
    obtain ⟨k, hk, rfl, hb, HO⟩ := hrel
    have hs := hb.size
    by_cases hlt : k < n
    · have hkp : k < parts.length := by have := HNN.out; omega
      have h1 : (k : Int) < (n : Int) := by omega
      have cB := (hb.block G h.lt)
      have c0 : wr.cell? ⟨G, O + k, none⟩ = some (pv k) := by rw [World.cell?_of_block (w := w) cB]; exact h.cel k hkp
      obtain ⟨b, cap, sv, hv, hc1, hc2, hUb, hbl, hcel, hrng⟩ := (h.nds k hkp)
      have hpos := h.pos k hkp
      have hft := flatten_take hkp
      have hle1 := flatten_take_le parts (k + 1)
      have hle := flatten_take_le parts k
      rw [hft, List.length_append] at hle1
      rw [hv] at c0
      obtain ⟨s1, ho, hr⟩ := HO.out
      obtain ⟨M, hM⟩ : ∃ M, M = (parts.getD k []).length := ⟨_, rfl⟩
      obtain ⟨N, hN⟩ : ∃ N, N = (parts.take k).flatten.length := ⟨_, rfl⟩
      rw [← hM] at c0 hpos hle1
      rw [← hN] at hle1
      have hbyt : (N + M) * 56 ≤ 140737488355328 := by omega
      have hmx : N + M ≤ maxLen := by unfold maxLen; omega
      have Hown : Hid (wr.ownsRow w.heap.size 67 5 u5 N (ndC (parts.take k).flatten s1)) := by rw [hN]; exact ho
      have hnl : (ndC (parts.getD k []) sv).length = M * 5 := by rw [ndC_len, hM]
      have Hnl : Hid _ := hnl
      have hnc : ∀ j u, (ndC (parts.getD k []) sv)[j]? = some u → wr.cell? ((⟨b, 0, none⟩ : Addr).add j) = some u := by
        intro j u hu
        have e1 : (⟨b, 0, none⟩ : Addr).add j = ⟨b, j, none⟩ := by unfold Addr.add; split <;> simp_all
        rw [e1, World.cell?_of_block (w := w) (hb.block b hbl)]
        exact hcel j u hu
      have Hnc : Hid _ := hnc
      have HM : Hid _ := hM
      have HN : Hid _ := hN
      have Hft : Hid _ := hft
      have Hr : Hid _ := hr
      have Hrng : Hid _ := hrng
      have H1 : Hid (∀ u ∈ ndC (parts.getD k []) sv, u.oneCell' = true) := ndC_one fun j hj => (hrng j hj).one
      clear hnl hnc hM hN hft hr hrng ho hle hv
      go_wp2_with (at_builtin; refine wpList_append_lies _ rfl (.tmp 16) (.tmp 17) 41 rfl w.heap.size 67 iN _ 5 56 Tryz.underlying41 hjN hyN0 hyN1 hyN2 rfl (by omega) _ N _ rfl Hown.out ⟨b, 0, none⟩ M cap _ rfl Hnl.out Hnc.out H1.out hpos hmx hbyt hs _ rfl ?_; intro g' cap' w4 own4 grow4 at4 lt4)
      have HP : Hid (NdO w.heap.size (fun b => U b ∧ b < w.heap.size) w4 (.slice (some ⟨g', 0, none⟩) (N + M) cap') (parts.take (k + 1)).flatten) := by
        show NdO _ _ _ _ _
        rw [Hft.out, HN.out, HM.out]
        rw [HN.out, HM.out] at own4
        refine NdO.more Hr.out (fun j hj => ?_) own4 grow4 (at4.imp id fun e => by omega)
        have h3 := (Hrng.out j hj).keep hs fun b _ hl => hb.block b hl
        have h4 : RngU (fun b => U b ∧ b < w.heap.size) w (sv j) ((parts.getD k []).getD j .zero).set := (Hrng.out j hj).mono fun b hb hl => ⟨hb, hl⟩
        refine (h4.keep hs fun b _ hl => hb.block b hl).mono fun b hb _ => ⟨hb, fun e => ?_⟩
        have := (ownsRow_blk Hown.out e).1
        have := hb.2
        omega
      have hb4 : Below w.heap.size w w4 := hb.grown grow4 hs (fun k hk => (ownsRow_blk Hown.out hk).1)
      clear own4 grow4 at4
      go_wp2
      go_roundw
      case rel => exact ⟨k + 1, by omega, by go_num, hb4, HP⟩
      case measure => simp [intOf]; omega
    · have hkn : k = n := by omega
      subst hkn
      have HO1 : Hid (NdO w.heap.size (fun b => U b ∧ b < w.heap.size) wr u5 (parts.flatten ++ List.replicate 0 (kindN kind))) := by
        have := HO.out
        rw [HNN.out, List.take_length] at this
        show NdO _ _ _ _ _
        simpa using this
      clear HO
      go_wp2
      go_loopw [5, 8] (fun av i wr => ∃ j : Nat, i = .int .i64 ((j + 1 : Nat) : Int) ∧ (j + 1 ≤ k ∨ j = 0) ∧ Below w.heap.size w wr ∧ Hid (NdO w.heap.size (fun b => U b ∧ b < w.heap.size) wr av (parts.flatten ++ List.replicate j (kindN kind)))) (fun _ i _ => k - (intOf i).toNat)
      case atStart => exact ⟨0, rfl, .inr rfl, hb, HO1⟩
      case round =>
        obtain ⟨j, rfl, hj, hb2, HO2⟩ := hrel
        have hs2 := hb2.size
        by_cases hlt2 : j + 1 < k
        · have h1 : ((j + 1 : Nat) : Int) < (k : Int) := by omega
          obtain ⟨s1, ho, hr⟩ := HO2.out
          obtain ⟨N, hN⟩ : ∃ N, N = (parts.flatten ++ List.replicate j (kindN kind)).length := ⟨_, rfl⟩
          have hN2 : N ≤ 200000 := by rw [hN, List.length_append, List.length_replicate]; omega
          have Hown : Hid (wr.ownsRow w.heap.size 67 5 u5 N (ndC (parts.flatten ++ List.replicate j (kindN kind)) s1)) := by rw [hN]; exact ho
          have HN : Hid _ := hN
          have Hr : Hid _ := hr
          clear hN hr ho
          go_wp2_with (at_builtin; refine wpList_append_szW rfl (.tmp 26) (.tmp 29) 41 rfl wr #[.int .i64 kind, .slice none 0 0, .int .i64 0, .int .i64 0, .int .i64 0] 67 rfl wr.heap.size rfl w.heap.size iN _ 5 56 Tryz.underlying41 hjN hyN0 hyN1 hyN2 rfl (by omega) _ N _ rfl Hown.out rfl rfl (by simp [Value.oneCell']) (by omega) (by omega) hs2 ?_; intro g' cap' w4 own4 grow4 at4)
          have HP : Hid (NdO w.heap.size (fun b => U b ∧ b < w.heap.size) w4 (.slice (some ⟨g', 0, none⟩) (N + 1) cap') (parts.flatten ++ List.replicate (j + 1) (kindN kind))) := by
            show NdO _ _ _ _ _
            rw [List.replicate_succ', ← List.append_assoc, HN.out]
            rw [HN.out] at own4
            exact NdO.more (ms := [kindN kind]) (s2 := fun _ => .slice none 0 0) Hr.out (fun i hi => by
              have : i = 0 := by simpa using hi
              subst this
              exact RngU.nil _ _) own4 grow4 at4
          have hb4 : Below w.heap.size w w4 := hb2.grown grow4 hs2 (fun k hk => (ownsRow_blk Hown.out hk).1)
          clear own4 grow4 at4
          go_wp2
          go_roundw
          case rel => exact ⟨j + 1, by go_num, .inl (by omega), hb4, HP⟩
          case measure => simp [intOf]; omega
        · have h1 : ¬((j + 1 : Nat) : Int) < (k : Int) := by omega
          have hjk : j = k - 1 := by omega
          have HF : Hid (NdO w.heap.size (fun b => U b ∧ b < w.heap.size) wr u5 (parts.flatten ++ List.replicate (k - 1) (kindN kind))) := by rw [← hjk]; exact HO2
          clear HO2 hjk
          go_wp2
          go_ret
          exact ⟨_, rfl, HF.out, hb2⟩
end Go.Proofs.YtgbdlgogccgciaaGreatDoor
