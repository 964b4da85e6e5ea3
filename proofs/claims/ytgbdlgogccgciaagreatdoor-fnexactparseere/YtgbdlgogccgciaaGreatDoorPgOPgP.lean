import Derived.Test.YtgbdlgogccgciaaGreatDoorPgMPgN
namespace Go.Proofs.YtgbdlgogccgciaaGreatDoor
open Go.RowKit
attribute [local go_sem ↓] Go.wp_at_zero Go.wp_at_succ

/- THE WRITER: takes, factors in a row. -/
theorem seesB_drop (l : List Tok) (x k : Nat) (hk : k < 7) : seesB l x k = decide (headK (l.drop x) = k) := by
  unfold seesB
  refine decide_eq_decide.2 ?_
  rcases Nat.lt_or_ge x l.length with h | h
  · have e : l.drop x = l[x] :: l.drop (x + 1) := List.drop_eq_getElem_cons h
    have e2 : kAt l x = l[x].kind := by unfold kAt; simp [List.getD, h]
    rw [e]
    exact ⟨fun q => by rw [← q.2, e2]; rfl, fun q => ⟨h, by rw [e2]; exact q⟩⟩
  · rw [List.drop_eq_nil_of_le h]
    exact ⟨fun q => by omega, fun q => by have q2 : 7 = k := q; omega⟩
theorem sees_at {B p G c : Nat} {l : List Tok} {sv : Nat → Value} {x g : Nat} (k : Nat) (K : Int) (hK : K = (k : Int)) (hk : k < 7) (w : World) (h : WtT B p G c l sv w x g) {b : Bool} (hb : b = decide (headK (l.drop x) = k)) :
    Calls Tryz.prog 76 #[.pointer (some ⟨p, 0, none⟩), .int .i64 K] w fun e w' => e = .returned (.bool b) ∧ Below w.heap.size w w' := by
  subst hK hb
  refine (sees_ok k w h.st).mono ?_
  rintro e w' ⟨rfl, _, hb⟩
  rw [seesB_drop _ _ _ hk]
  exact ⟨rfl, hb⟩
theorem drop_next {l body post : List Tok} {x : Nat} (h : l.drop x = body ++ post) : l.drop (x + body.length) = post := by
  rw [← List.drop_drop, h, List.drop_left]
theorem drop_le {l body post : List Tok} {x : Nat} (h : l.drop x = body ++ post) (hx : x ≤ l.length) : x + body.length ≤ l.length := by
  have := congrArg List.length h
  simp at this
  omega
set_option maxRecDepth 100000 in
set_option maxHeartbeats 2000000 in
theorem takes_ok {B p G c : Nat} {l : List Tok} {sv : Nat → Value} {x g : Nat} (k : Nat) (K : Int) (hK : K = (k : Int)) (hk : k < 7) (w : World) (h : WtT B p G c l sv w x g) {b : Bool} (hbb : b = decide (headK (l.drop x) = k)) (x' : Nat) (hxb : x' = if b = true then x + 1 else x) :
    Calls Tryz.prog 54 #[.pointer (some ⟨p, 0, none⟩), .int .i64 K] w fun e w' => e = .returned (.bool b) ∧ WtT B p G c l sv w' x' g ∧ WKp p none w w' := by
  have hS := sees_at k K hK hk w h hbb
  clear hK
  have hx := h.st.le
  have hl := h.st.few
  cases b with
  | false =>
    have hxe : x' = x := by rw [hxb, if_neg (by decide)]
    subst hxe
    clear hbb hxb
    go_enter Tryz.func54, Tryz.ntmps54
    go_wp2_with fail
    refine hS.mono ?_
    rintro e w2 ⟨rfl, hb⟩
    clear hS
    go_wp2
    go_ret
    exact ⟨rfl, h.keep hb, .of_below hb⟩
  | true =>
    have hx1 : x + 1 ≤ l.length := by
      have h1 : headK (l.drop x) = k := of_decide_eq_true hbb.symm
      rcases Nat.lt_or_ge x l.length with h2 | h2
      · exact h2
      · rw [List.drop_eq_nil_of_le h2] at h1
        simp [headK] at h1
        omega
    have hxe : x' = x + 1 := by rw [hxb, if_pos rfl]
    subst hxe
    clear hbb hxb
    go_enter Tryz.func54, Tryz.ntmps54
    go_wp2_with fail
    refine hS.mono ?_
    rintro e w2 ⟨rfl, hb⟩
    have hT := h.keep hb
    obtain ⟨z0, z1, z2, f0, f1, f2⟩ := row_threeE hT.st.box
    have HT := hid hT
    have hk0 : WKp p none w w2 := .of_below hb
    have HB := hid hb
    have HBX : Hid ((w2.setCell ⟨p, 1, none⟩ (.int .i64 ((x : Int) + 1))).heap[p]? = some (.cells #[.slice (some ⟨G, 0, none⟩) l.length c, .int .i64 ((x + 1 : Nat) : Int), .int .i64 (g : Int)] 113 (0, 0))) := by
      show _ = _
      rw [heap_setCell_same _ _ _ _ _ _ hT.st.box]
      rfl
    have hxx : x ≤ 2000 := by omega
    have HX1 := hid hx1
    have HK0 := hid hk0
    clear hS hb hT hk0 hx hl h hx1 z0 z2 f0 f2
    go_wp2
    go_ret
    exact ⟨rfl, HT.out.to (WKp.cell (WKp.refl p none w2) 1 _) (fun b e => by cases e) HBX.out HX1.out (Nat.le_trans HT.out.gl (Nat.le_succ _)), WKp.cell HK0.out 1 _⟩
/-- What factor owes over parts of at most M tokens. -/
def FacC (B p G c : Nat) (l : List Tok) (sv : Nat → Value) (M : Nat) : Prop := ∀ (g : Nat) (body : List Tok) (ns : List NodeD) (g' : Nat) (post : List Tok) (x : Nat) (v : Value) (ns0 : List NodeD) (vs0 : List Value) (W : World),
  body.length ≤ M → Gr 1 g body 0 ns g' → l.drop x = body ++ post → headK post ≠ 4 → WtT B p G c l sv W x g → NdP B p W v ns0 vs0 → ns0.length ≤ 2 * x →
  Calls Tryz.prog 87 #[.pointer (some ⟨p, 0, none⟩), v] W (WrR B p G c l sv W v ns0 vs0 (x + body.length) g' ns (blF sv x body.length))
/-- Where the parts stand: D is written, m is to be written. -/
structure SqI (B p G c : Nat) (l : List Tok) (sv : Nat → Value) (w : World) (v : Value) (ns0 : List NodeD) (vs0 : List Value) (x X : Nat) (post : List Tok) (D : List NodeD) (wr : World) (nv : Value) (x1 g1 : Nat) (m : List Tok) (vs1 : List Value) : Prop where
  dr : l.drop x1 = m ++ post
  wt : WtT B p G c l sv wr x1 g1
  nd : NdP B p wr nv (ns0 ++ D) (vs0 ++ vs1)
  kp : WKp p v.ownBlock w wr
  ow : OwnT w v nv
  bl : vs1.filterMap Value.ownBlock = blF sv x (x1 - x)
  le : x ≤ x1
  xe : x1 + m.length = X
  dl : ns0.length + D.length ≤ 2 * x1
theorem NdP.form {B p : Nat} {W : World} {v : Value} {ns : List NodeD} {vs : List Value} (h : NdP B p W v ns vs) : ∃ ao n c, v = .slice ao n c := by
  rcases h.2.1.2 with ⟨e, _⟩ | ⟨g, cap, _, e, _⟩
  · exact ⟨_, _, _, e⟩
  · exact ⟨_, _, _, e⟩
theorem filterMap_nils (n : Nat) : (List.replicate n nilS).filterMap Value.ownBlock = [] := by
  induction n with
  | zero => rfl
  | succ n ih => rw [List.replicate_succ, List.filterMap_cons]; exact ih
/-- Behind the parts: the joins are being written. -/
structure JnI (B p G c : Nat) (l : List Tok) (sv : Nat → Value) (w : World) (v : Value) (ns1 : List NodeD) (vs1 : List Value) (X g' : Nat) (wr : World) (nv : Value) (j : Nat) (nd : NodeD) : Prop where
  wt : WtT B p G c l sv wr X g'
  nd : NdP B p wr nv (ns1 ++ List.replicate j nd) (vs1 ++ List.replicate j nilS)
  kp : WKp p v.ownBlock w wr
  ow : OwnT w v nv
theorem JnI.push {B p G c : Nat} {l : List Tok} {sv : Nat → Value} {w : World} {v : Value} {ns1 : List NodeD} {vs1 : List Value} {X g' : Nat} {wr wa w' : World} {nv nv' : Value} {j : Nat} {nd : NodeD} (h : JnI B p G c l sv w v ns1 vs1 X g' wr nv j nd) (hba : Below wr.heap.size wr wa)
    (hN : NdP B p w' nv' ((ns1 ++ List.replicate j nd) ++ [nd]) ((vs1 ++ List.replicate j nilS) ++ [nilS])) (hg : wa.grownBy w' nv.ownBlock) (ho : OwnT wa nv nv') : JnI B p G c l sv w v ns1 vs1 X g' w' nv' (j + 1) nd := by
  have hr : ∀ b, nv.ownBlock = some b → p < b := fun b hb => (h.nd.own b hb).1
  refine ⟨(h.wt.keep hba).grown hg hr, ?_, ?_, ?_⟩
  · rw [List.replicate_succ', List.replicate_succ', ← List.append_assoc, ← List.append_assoc]; exact hN
  · exact (h.kp.next (.of_below hba)).trans (fun b hb => h.ow b hb) (.of_grown hg)
  · exact (show OwnT w v nv from h.ow).trans (Nat.le_trans h.kp.size hba.size) ho
theorem headK_app {r : List Tok} (post : List Tok) (h : r ≠ []) : headK (r ++ post) = headK r := by
  cases r with
  | nil => exact absurd rfl h
  | cons y r => rfl
theorem headK_kAt {r : List Tok} (h : r ≠ []) : headK r = kAt r 0 := by
  cases r with
  | nil => exact absurd rfl h
  | cons y r => rfl
theorem fsHead {g g' : Nat} {r : List Tok} {P : List (List NodeD)} (h : Fs g r P g') : r = [] ∨ (r ≠ [] ∧ (headK r = 0 ∨ headK r = 1)) := by
  cases h with
  | nil => exact .inl rfl
  | cons hg hf =>
    have hne := gr_ne hg
    refine .inr ⟨by simp [hne], ?_⟩
    rw [headK_app _ hne, headK_kAt hne]
    exact gr_head hg
theorem SqI.step {B p G c : Nat} {l : List Tok} {sv : Nat → Value} {w : World} {v : Value} {ns0 : List NodeD} {vs0 : List Value} {x X : Nat} {post : List Tok} {D N : List NodeD} {wr w2 w3 : World} {nv v' : Value} {x1 g1 g2 : Nat} {m f r : List Tok} {vs1 vs' : List Value}
    (h : SqI B p G c l sv w v ns0 vs0 x X post D wr nv x1 g1 m vs1) (hm : m = f ++ r) (hNl : N.length ≤ 2 * f.length) (hb : Below wr.heap.size wr w2)
    (hN : NdP B p w3 v' (ns0 ++ D ++ N) (vs0 ++ vs1 ++ vs')) (hW : WtT B p G c l sv w3 (x1 + f.length) g2) (hK : WKp p nv.ownBlock w2 w3) (hO : OwnT w2 nv v') (hB : vs'.filterMap Value.ownBlock = blF sv x1 f.length) :
    SqI B p G c l sv w v ns0 vs0 x X post (D ++ N) w3 v' (x1 + f.length) g2 r (vs1 ++ vs') := by
  have hx := h.xe
  have hle := h.le
  refine ⟨drop_next (by rw [h.dr, hm, List.append_assoc]), hW, ?_, (h.kp.next (.of_below hb)).trans h.ow hK, h.ow.trans (Nat.le_trans h.kp.size hb.size) hO, ?_, by omega, ?_, by have := h.dl; rw [List.length_append]; omega⟩
  · rw [← List.append_assoc, ← List.append_assoc]; exact hN
  · rw [List.filterMap_append, h.bl, hB, show x1 + f.length - x = (x1 - x) + f.length by omega, blF_app, show x + (x1 - x) = x1 by omega]
  · rw [hm, List.length_append] at hx; omega
theorem drop_head {l : List Tok} {b : Tok} {r : List Tok} {x : Nat} (h : l.drop x = b :: r) : x < l.length ∧ l.getD x tokZ = b := by
  rcases Nat.lt_or_ge x l.length with h1 | h1
  · have e : l.drop x = l[x] :: l.drop (x + 1) := List.drop_eq_getElem_cons h1
    rw [e] at h
    refine ⟨h1, ?_⟩
    simp only [List.cons.injEq] at h
    rw [← h.1]
    simp [List.getD, h1]
  · rw [List.drop_eq_nil_of_le h1] at h; cases h
/-- A token that is no atom is passed over. -/
theorem SqI.skip {B p G c : Nat} {l : List Tok} {sv : Nat → Value} {w : World} {v : Value} {ns0 : List NodeD} {vs0 : List Value} {x X : Nat} {post : List Tok} {D : List NodeD} {wr w3 : World} {nv : Value} {x1 g1 g2 : Nat} {m r : List Tok} {b : Tok} {vs1 : List Value}
    (h : SqI B p G c l sv w v ns0 vs0 x X post D wr nv x1 g1 m vs1) (hm : m = b :: r) (hb : b.kind ≠ 0) (hW : WtT B p G c l sv w3 (x1 + 1) g2) (hK : WKp p none wr w3) :
    SqI B p G c l sv w v ns0 vs0 x X post D w3 nv (x1 + 1) g2 r vs1 := by
  have hx := h.xe
  have hle := h.le
  have hd : l.drop x1 = b :: (r ++ post) := by rw [h.dr, hm]; rfl
  obtain ⟨hl, hg⟩ := drop_head hd
  refine ⟨drop_next (body := [b]) hd, hW, h.nd.keep hK, h.kp.next hK, h.ow, ?_, by omega, ?_, by have := h.dl; omega⟩
  · rw [h.bl, show x1 + 1 - x = (x1 - x) + 1 by omega, blF_app, show x + (x1 - x) = x1 by omega, blF_nil h.wt hl (by unfold kAt; rw [hg]; exact hb), List.append_nil]
  · rw [hm, List.length_cons] at hx; omega
set_option maxRecDepth 100000 in
set_option maxHeartbeats 8000000 in
theorem sequence_ok {B p G c : Nat} {l : List Tok} {sv : Nat → Value} {M : Nat} (hF : FacC B p G c l sv M) (g : Nat) (body : List Tok) (n : Nat) (ns : List NodeD) (g' : Nat) (post : List Tok) (x : Nat) (v : Value) (ns0 : List NodeD) (vs0 : List Value) (w : World)
    (hM : body.length ≤ M) (hG : Gr 2 g body (n + 1) ns g') (hd : l.drop x = body ++ post) (h0 : headK post ≠ 0) (h1 : headK post ≠ 1) (h4 : headK post ≠ 4) (hW : WtT B p G c l sv w x g) (hN : NdP B p w v ns0 vs0) (hl0 : ns0.length ≤ 2 * x) :
    Calls Tryz.prog 75 #[.pointer (some ⟨p, 0, none⟩), v] w (WrR B p G c l sv w v ns0 vs0 (x + body.length) g' (ns ++ List.replicate n seqN) (blF sv x body.length)) := by
  obtain ⟨P, hFs, hPn, hPf⟩ := fs_of hG rfl
  have hGl := (gr_len hG).2 (Nat.le_refl _)
  have hbl : body.length ≤ 2000 := by have := drop_le hd hW.st.le; have := hW.st.few; omega
  have hn4 : n ≤ 4000 := by omega
  have hx4 : x ≤ 2000 := by have := hW.st.le; have := hW.st.few; omega
  have hns4 : ns.length ≤ 4000 := by omega
  obtain ⟨ao, vn, vc, hv⟩ := hN.form
  have HF := hid hF
  have HI : Hid (SqI B p G c l sv w v ns0 vs0 x (x + body.length) post ([] : List (List NodeD)).flatten w v x g body []) := ⟨hd, hW, by simpa using hN, .refl _ _ _, .refl _ _, by simp [blF], Nat.le_refl _, rfl, by simpa using hl0⟩
  have HP := hid hPf
  have HPn := hid hPn
  have H0 := hid h0
  have H1 := hid h1
  have H4 := hid h4
  have HM := hid hM
  have HFs := hid hFs
  clear hFs hPf hG hGl hd h0 h1 h4 hW hN hF hM
  go_enter Tryz.func75, Tryz.ntmps75
  go_wp2
  go_loopw [1, 5] (fun nv kv wr => ∃ (k : Nat) (P1 P2 : List (List NodeD)) (x1 g1 : Nat) (m : List Tok) (vs1 : List Value), k ≤ n + 1 ∧ kv = .int .i64 (k : Int) ∧ Hid (P = P1 ++ P2) ∧ Hid (P1.length = k) ∧ Hid (Fs g1 m P2 g') ∧ Hid (SqI B p G c l sv w v ns0 vs0 x (x + body.length) post P1.flatten wr nv x1 g1 m vs1)) (fun _ kv _ => n + 1 - (intOf kv).toNat)
  case atStart => exact ⟨0, [], P, x, g, body, [], by omega, rfl, rfl, rfl, HFs, HI⟩
  case round =>
    obtain ⟨k, P1, P2, x1, g1, m, vs1, hk, rfl, HPe, HPl, HFs1, HS⟩ := hrel
    have hwt := hid HS.out.wt
    have hnv := HS.out.nd.form
    obtain ⟨nao, nn, nc, rfl⟩ := hnv
    cases P2 with
    | nil =>
      have hm : m = [] ∧ g1 = g' := by have h9 := HFs1.out; cases h9; exact ⟨rfl, rfl⟩
      obtain ⟨rfl, rfl⟩ := hm
      have hP1 : P1 = P := by have := HPe.out; rw [List.append_nil] at this; exact this.symm
      have hkn : k = n + 1 := by rw [← HPl.out, hP1]; exact HPn.out
      subst hkn
      have hdr : l.drop x1 = post := HS.out.dr
      have hx1 : x1 = x + body.length := HS.out.xe
      have s0 := sees_at 0 0 rfl (by omega) wr hwt.out (b := false) (by rw [hdr]; symm; exact decide_eq_false H0.out)
      have hS1 : ∀ w1, Below wr.heap.size wr w1 → Calls Tryz.prog 76 #[.pointer (some ⟨p, 0, none⟩), .int .i64 1] w1 fun e w' => e = .returned (.bool false) ∧ Below w1.heap.size w1 w' :=
        fun w1 h => sees_at 1 1 rfl (by omega) w1 (hwt.out.keep h) (by rw [hdr]; symm; exact decide_eq_false H1.out)
      have HJ : ∀ w2, Below wr.heap.size wr w2 → Hid (JnI B p G c l sv w v (ns0 ++ ns) (vs0 ++ vs1) (x + body.length) g1 w2 (.slice nao nn nc) 0 seqN) := fun w2 h => by
        refine ⟨by rw [← hx1]; exact hwt.out.keep h, ?_, HS.out.kp.next (.of_below h), HS.out.ow⟩
        have := HS.out.nd.keep (WKp.of_below h)
        rw [hP1, HP.out] at this
        simpa using this
      have HBL : Hid (vs1.filterMap Value.ownBlock = blF sv x body.length) := by
        have := HS.out.bl
        rw [hx1, Nat.add_sub_cancel_left] at this
        exact this
      clear hdr hx1 hP1
      go_wp2_with fail
      refine s0.mono ?_
      rintro e w1 ⟨rfl, hb1⟩
      clear s0
      go_wp2_with fail
      refine (hS1 w1 hb1).mono ?_
      rintro e w2 ⟨rfl, hb2⟩
      have HJ2 := HJ w2 (below_step hb1 hb1.size hb2)
      clear hS1 HJ
      have hni : ((n + 1 : Nat) : Int) - 1 = (n : Int) := by omega
      go_wp2
      go_loopw [1, 19] (fun nv iv wq => ∃ j : Nat, j ≤ n ∧ iv = .int .i64 (j : Int) ∧ Hid (JnI B p G c l sv w v (ns0 ++ ns) (vs0 ++ vs1) (x + body.length) g1 wq nv j seqN)) (fun _ iv _ => n - (intOf iv).toNat)
      case atStart => exact ⟨0, by omega, rfl, HJ2⟩
      case round =>
        clear hb1 hb2 HJ2 w1 w2
        obtain ⟨j, hj, rfl, HJ⟩ := hrel
        obtain ⟨qao, qn, qc, rfl⟩ := HJ.out.nd.form
        by_cases hlt : j < n
        · have hltI : (j : Int) < (n : Int) := by omega
          obtain ⟨L, HL⟩ : ∃ L, Hid ((ns0 ++ ns ++ List.replicate j seqN).length = L) := ⟨_, rfl⟩
          have hlen : L ≤ 100000 := by have := HL.out; simp at this; omega
          have hpl := HJ.out.wt.lt
          go_wp2_with (at_builtin; refine wpList_nodeP rfl (.tmp 21) (.tmp 23) rfl B p _ _ _ rfl (HJ.out.nd.keep (.of_below ((Below.refl _ _).alloc (Nat.le_refl _) _))) wr.heap.size seqN nilS rfl (heap_alloc_new _ _) (RngO.nil _ _) (fun _ hb => by cases hb) L HL.out hlen (by simp; omega) ?_; intro g9 cap9 w9 hN9 hg9 ha9)
          have HJ9 : Hid (JnI B p G c l sv w v (ns0 ++ ns) (vs0 ++ vs1) (x + body.length) g1 w9 _ (j + 1) seqN) := HJ.out.push ((Below.refl _ _).alloc (Nat.le_refl _) _) hN9 hg9 (.of ha9)
          clear hN9 hg9 ha9
          go_wp2
          go_roundw
          case rel => exact ⟨j + 1, by omega, by go_num, HJ9⟩
          case measure => simp [intOf]; omega
        · have hjn : j = n := by omega
          subst hjn
          go_wp2
          go_ret
          exact ⟨_, vs1 ++ List.replicate j nilS, rfl, by have := HJ.out.nd; simpa [List.append_assoc] using this, HJ.out.wt, HJ.out.kp, HJ.out.ow, by rw [List.filterMap_append, filterMap_nils, List.append_nil]; exact HBL.out⟩
    | cons N P3 =>
      obtain ⟨f, r, g2, hm, hG1, hF2⟩ : ∃ f r g2, m = f ++ r ∧ Gr 1 g1 f 0 N g2 ∧ Fs g2 r P3 g' := by have h9 := HFs1.out; cases h9 with | cons hg hf => exact ⟨_, _, _, rfl, hg, hf⟩
      have hdr : l.drop x1 = f ++ (r ++ post) := by rw [HS.out.dr, hm, List.append_assoc]
      have hk4 : headK (r ++ post) ≠ 4 := by
        rcases fsHead hF2 with rfl | ⟨hne, h9⟩
        · exact H4.out
        · rw [headK_app _ hne]; omega
      have hfk : headK (l.drop x1) = 0 ∨ headK (l.drop x1) = 1 := by
        have hne := gr_ne hG1
        rw [hdr, headK_app _ hne, headK_kAt hne]
        exact gr_head hG1
      have hfm : f.length ≤ M := by
        have h8 := HS.out.xe
        have h9 := HS.out.le
        have := HM.out
        rw [hm, List.length_append] at h8
        omega
      have hPl : P1.length + 1 + P3.length = n + 1 := by have := congrArg List.length HPe.out; have := HPn.out; simp at *; omega
      have hfl : (ns0 ++ P1.flatten).length ≤ 2 * x1 := by rw [List.length_append]; exact HS.out.dl
      have hNl : N.length ≤ 2 * f.length := by have := (gr_len hG1).1 (by omega); omega
      have hC : ∀ W, Below wr.heap.size wr W → Calls Tryz.prog 87 #[.pointer (some ⟨p, 0, none⟩), .slice nao nn nc] W (WrR B p G c l sv W (.slice nao nn nc) (ns0 ++ P1.flatten) (vs0 ++ vs1) (x1 + f.length) g2 N (blF sv x1 f.length)) :=
        fun W hW => HF.out g1 f N g2 (r ++ post) x1 _ _ _ W hfm hG1 hdr hk4 (hwt.out.keep hW) (HS.out.nd.keep (.of_below hW)) hfl
      have hkn : k ≤ n := by have := HPl.out; omega
      have HR : Hid (∀ (w2 w3 : World) (v' : Value) (vs' : List Value), Below wr.heap.size wr w2 → NdP B p w3 v' (ns0 ++ P1.flatten ++ N) (vs0 ++ vs1 ++ vs') → WtT B p G c l sv w3 (x1 + f.length) g2 → WKp p (Value.slice nao nn nc).ownBlock w2 w3 → OwnT w2 (.slice nao nn nc) v' → vs'.filterMap Value.ownBlock = blF sv x1 f.length →
          ∃ (k' : Nat) (Q1 Q2 : List (List NodeD)) (x2 g3 : Nat) (m2 : List Tok) (vs2 : List Value), k' ≤ n + 1 ∧ Value.int .i64 ((k + 1 : Nat) : Int) = .int .i64 (k' : Int) ∧ Hid (P = Q1 ++ Q2) ∧ Hid (Q1.length = k') ∧ Hid (Fs g3 m2 Q2 g') ∧ Hid (SqI B p G c l sv w v ns0 vs0 x (x + body.length) post Q1.flatten w3 v' x2 g3 m2 vs2)) :=
        fun w2 w3 v' vs' a1 a2 a3 a4 a5 a6 => ⟨k + 1, P1 ++ [N], P3, _, _, r, _, by omega, rfl, (by show _ = _; rw [HPe.out]; simp), (by show _ = _; have := HPl.out; simp; omega), hF2, (by have := HS.out.step hm hNl a1 a2 a3 a4 a5 a6; rw [List.flatten_append, List.flatten_singleton]; exact this)⟩
      rcases hfk with hz | hz
      · have s0 := sees_at 0 0 rfl (by omega) wr hwt.out (b := true) (by rw [hz]; rfl)
        clear hPl hfl hfm hk4 hdr hz hF2 hG1 hm
        go_wp2_with fail
        refine s0.mono ?_
        rintro e w1 ⟨rfl, hb1⟩
        clear s0
        go_wp2_with fail
        refine (hC w1 hb1).mono ?_
        rintro e w3 ⟨v', vs', rfl, a2, a3, a4, a5, a6⟩
        have HR2 := hid (HR.out w1 w3 v' vs' hb1 a2 a3 a4 a5 a6)
        clear hC HR a2 a3 a4 a5 a6
        go_wp2
        go_roundw
        case rel => exact HR2.out
        case measure => simp [intOf]; omega
      · have s0 := sees_at 0 0 rfl (by omega) wr hwt.out (b := false) (by rw [hz]; rfl)
        have hS1 : ∀ w1, Below wr.heap.size wr w1 → Calls Tryz.prog 76 #[.pointer (some ⟨p, 0, none⟩), .int .i64 1] w1 fun e w' => e = .returned (.bool true) ∧ Below w1.heap.size w1 w' :=
          fun w1 h => sees_at 1 1 rfl (by omega) w1 (hwt.out.keep h) (by rw [hz]; rfl)
        clear hPl hfl hfm hk4 hdr hz hF2 hG1 hm
        go_wp2_with fail
        refine s0.mono ?_
        rintro e w1 ⟨rfl, hb1⟩
        clear s0
        go_wp2_with fail
        refine (hS1 w1 hb1).mono ?_
        rintro e w2 ⟨rfl, hb2⟩
        have hb12 := below_step hb1 hb1.size hb2
        clear hS1
        go_wp2_with fail
        refine (hC w2 hb12).mono ?_
        rintro e w3 ⟨v', vs', rfl, a2, a3, a4, a5, a6⟩
        have HR2 := hid (HR.out w2 w3 v' vs' hb12 a2 a3 a4 a5 a6)
        clear hC HR a2 a3 a4 a5 a6
        go_wp2
        go_roundw
        case rel => exact HR2.out
        case measure => simp [intOf]; omega
end Go.Proofs.YtgbdlgogccgciaaGreatDoor
namespace Go.Proofs.YtgbdlgogccgciaaGreatDoor
open Go.RowKit
attribute [local go_sem ↓] Go.wp_at_zero Go.wp_at_succ

/- THE WRITER: alternatives. -/
/-- Behind an alternative: nothing, or a bar and more of them. -/
def Rm (g : Nat) (m : List Tok) (P : List (List NodeD)) (g' : Nat) : Prop := (m = [] ∧ P = [] ∧ g = g') ∨ ∃ (b : Tok) (m2 : List Tok) (ts : List (List Tok)), m = b :: m2 ∧ b.kind = 3 ∧ As g m2 ts P g'
theorem As.split {g g' : Nat} {m : List Tok} {ts : List (List Tok)} {P : List (List NodeD)} (h : As g m ts P g') : ∃ l1 N g2 m2 P3, m = l1 ++ m2 ∧ P = N :: P3 ∧ AltI g l1 N g2 ∧ Rm g2 m2 P3 g' := by
  cases h with
  | one h => exact ⟨m, _, _, [], [], by simp, rfl, h, .inl ⟨rfl, rfl, rfl⟩⟩
  | more h hb h2 => exact ⟨_, _, _, _, _, rfl, rfl, h, .inr ⟨_, _, _, rfl, hb, h2⟩⟩
theorem Rm.head {g g' : Nat} {m post : List Tok} {P : List (List NodeD)} (h : Rm g m P g') (h0 : headK post ≠ 0) (h1 : headK post ≠ 1) (h4 : headK post ≠ 4) : headK (m ++ post) ≠ 0 ∧ headK (m ++ post) ≠ 1 ∧ headK (m ++ post) ≠ 4 := by
  rcases h with ⟨rfl, _, _⟩ | ⟨b, m2, ts, rfl, hb, _⟩
  · exact ⟨h0, h1, h4⟩
  · have : headK (b :: m2 ++ post) = 3 := hb
    rw [this]
    omega
theorem alt_len {g g' : Nat} {m : List Tok} {N : List NodeD} (h : AltI g m N g') : N.length ≤ 2 * m.length := by
  obtain ⟨n, ns, h2, rfl⟩ := h.gr
  have := (gr_len h2).2 (Nat.le_refl _)
  simp
  omega
theorem seqA_ok {B p G c : Nat} {l : List Tok} {sv : Nat → Value} {M : Nat} (hF : FacC B p G c l sv M) (g : Nat) (body : List Tok) (N : List NodeD) (g' : Nat) (post : List Tok) (x : Nat) (v : Value) (ns0 : List NodeD) (vs0 : List Value) (w : World)
    (hM : body.length ≤ M) (hG : AltI g body N g') (hd : l.drop x = body ++ post) (h0 : headK post ≠ 0) (h1 : headK post ≠ 1) (h4 : headK post ≠ 4) (hW : WtT B p G c l sv w x g) (hN : NdP B p w v ns0 vs0) (hl0 : ns0.length ≤ 2 * x) :
    Calls Tryz.prog 75 #[.pointer (some ⟨p, 0, none⟩), v] w (WrR B p G c l sv w v ns0 vs0 (x + body.length) g' N (blF sv x body.length)) := by
  obtain ⟨n, ns, hG2, rfl⟩ := hG.gr
  exact sequence_ok hF g body n ns g' post x v ns0 vs0 w hM hG2 hd h0 h1 h4 hW hN hl0
set_option maxRecDepth 100000 in
set_option maxHeartbeats 8000000 in
theorem alternatives_ok {B p G c : Nat} {l : List Tok} {sv : Nat → Value} {M : Nat} (hF : FacC B p G c l sv M) (g : Nat) (body : List Tok) (n : Nat) (ns : List NodeD) (g' : Nat) (post : List Tok) (x : Nat) (v : Value) (ns0 : List NodeD) (vs0 : List Value) (w : World)
    (hM : body.length ≤ M) (hG : Gr 3 g body (n + 1) ns g') (hd : l.drop x = body ++ post) (h2 : headK post = 2) (hW : WtT B p G c l sv w x g) (hN : NdP B p w v ns0 vs0) (hl0 : ns0.length ≤ 2 * x) :
    Calls Tryz.prog 96 #[.pointer (some ⟨p, 0, none⟩), v] w (WrR B p G c l sv w v ns0 vs0 (x + body.length) g' (ns ++ List.replicate n altN) (blF sv x body.length)) := by
  obtain ⟨ts, P, hAs, hPn, hPf⟩ := as_of hG rfl
  have hGl := (gr_len hG).2 (by omega)
  have hbl : body.length ≤ 2000 := by have := drop_le hd hW.st.le; have := hW.st.few; omega
  have hn4 : n ≤ 4000 := by omega
  have hx4 : x ≤ 2000 := by have := hW.st.le; have := hW.st.few; omega
  have hns4 : ns.length ≤ 4000 := by omega
  obtain ⟨l1, N1, g2, m2, P3, hm1, hP1, hA1, hR1⟩ := hAs.split
  obtain ⟨q0, q1, q4⟩ := hR1.head (post := post) (by omega) (by omega) (by omega)
  have hdr : l.drop x = l1 ++ (m2 ++ post) := by rw [hd, hm1, List.append_assoc]
  have hl1 : l1.length ≤ M := by have := congrArg List.length hm1; simp at this; omega
  have hC := seqA_ok hF g l1 N1 g2 (m2 ++ post) x v ns0 vs0 w hl1 hA1 hdr q0 q1 q4 hW hN hl0
  obtain ⟨ao, vn, vc, hv⟩ := hN.form
  have HF := hid hF
  have HI : ∀ (w3 : World) (v' : Value) (vs' : List Value), NdP B p w3 v' (ns0 ++ N1) (vs0 ++ vs') → WtT B p G c l sv w3 (x + l1.length) g2 → WKp p v.ownBlock w w3 → OwnT w v v' → vs'.filterMap Value.ownBlock = blF sv x l1.length →
      Hid (SqI B p G c l sv w v ns0 vs0 x (x + body.length) post [N1].flatten w3 v' (x + l1.length) g2 m2 vs') := fun w3 v' vs' a1 a2 a3 a4 a5 =>
    ⟨drop_next hdr, a2, by simpa using a1, a3, a4, by rw [a5, Nat.add_sub_cancel_left], by omega, by rw [hm1, List.length_append]; omega, by have := alt_len hA1; simp; omega⟩
  have HP := hid hPf
  have HPn := hid hPn
  have HP1 : Hid (P = [N1] ++ P3) := hP1
  have HR1 := hid hR1
  have H2 := hid h2
  have HM := hid hM
  have hnP : P3.length = n := by rw [hP1] at hPn; simpa using hPn
  have HnP := hid hnP
  clear hAs hPf hG hGl hd h2 hW hN hF hM hP1 hR1 q0 q1 q4 hA1 hm1 hl1 hPn hdr hnP
  subst hv
  go_enter Tryz.func96, Tryz.ntmps96
  go_wp2_with fail
  refine hC.mono ?_
  rintro e w3 ⟨v', vs', rfl, a1, a2, a3, a4, a5⟩
  have HI3 := HI w3 v' vs' a1 a2 a3 a4 a5
  clear HI hC a1 a2 a3 a4 a5
  go_wp2
  go_loopw [1, 5] (fun nv kv wr => ∃ (k : Nat) (P1 P2 : List (List NodeD)) (x1 g1 : Nat) (m : List Tok) (vs1 : List Value), k ≤ n ∧ kv = .int .i64 (k : Int) ∧ Hid (P = P1 ++ P2) ∧ Hid (P2.length + k = n) ∧ Hid (Rm g1 m P2 g') ∧ Hid (SqI B p G c l sv w (.slice ao vn vc) ns0 vs0 x (x + body.length) post P1.flatten wr nv x1 g1 m vs1)) (fun _ kv _ => n - (intOf kv).toNat)
  case atStart => exact ⟨0, [N1], P3, _, _, m2, vs', by omega, rfl, HP1, HnP.out, HR1, HI3⟩
  case round =>
    clear HI3
    obtain ⟨k, P1, P2, x1, g1, m, vs1, hk, rfl, HPe, HPl, HRm, HS⟩ := hrel
    have hwt := hid HS.out.wt
    obtain ⟨nao, nn, nc, rfl⟩ := HS.out.nd.form
    rcases HRm.out with ⟨rfl, rfl, rfl⟩ | ⟨b, mb, tb, hmb, hbk, hAb⟩
    · have hkn : k = n := by have := HPl.out; simpa using this
      subst hkn
      have hdr : l.drop x1 = post := HS.out.dr
      have hx1 : x1 = x + body.length := HS.out.xe
      have s0 := takes_ok 3 3 rfl (by omega) wr hwt.out (b := false) (by rw [hdr, H2.out]; rfl) x1 rfl
      have HJ : ∀ w2, WtT B p G c l sv w2 (x1) g1 → WKp p none wr w2 → Hid (JnI B p G c l sv w (.slice ao vn vc) (ns0 ++ ns) (vs0 ++ vs1) (x + body.length) g1 w2 (.slice nao nn nc) 0 altN) := fun w2 h1 h2 => by
        refine ⟨by rw [← hx1]; exact h1, ?_, HS.out.kp.next h2, HS.out.ow⟩
        have h9 := HS.out.nd.keep h2
        have h8 := HPe.out
        rw [List.append_nil] at h8
        rw [← h8, HP.out] at h9
        simpa using h9
      have HBL : Hid (vs1.filterMap Value.ownBlock = blF sv x body.length) := by
        have := HS.out.bl
        rw [hx1, Nat.add_sub_cancel_left] at this
        exact this
      clear hdr hx1
      go_wp2_with fail
      refine s0.mono ?_
      rintro e w1 ⟨rfl, hb1, hb2⟩
      have HJ2 := HJ w1 hb1 hb2
      clear s0 HJ hb1 hb2
      go_wp2
      go_loopw [1, 17] (fun nv iv wq => ∃ j : Nat, j ≤ k ∧ iv = .int .i64 (j : Int) ∧ Hid (JnI B p G c l sv w (.slice ao vn vc) (ns0 ++ ns) (vs0 ++ vs1) (x + body.length) g1 wq nv j altN)) (fun _ iv _ => k - (intOf iv).toNat)
      case atStart => exact ⟨0, by omega, rfl, HJ2⟩
      case round =>
        clear HJ2 w1
        obtain ⟨j, hj, rfl, HJ⟩ := hrel
        obtain ⟨qao, qn, qc, rfl⟩ := HJ.out.nd.form
        by_cases hlt : j < k
        · have hltI : (j : Int) < (k : Int) := by omega
          obtain ⟨L, HL⟩ : ∃ L, Hid ((ns0 ++ ns ++ List.replicate j altN).length = L) := ⟨_, rfl⟩
          have hlen : L ≤ 100000 := by have := HL.out; simp at this; omega
          have hpl := HJ.out.wt.lt
          go_wp2_with (at_builtin; refine wpList_nodeP rfl (.tmp 19) (.tmp 21) rfl B p _ _ _ rfl (HJ.out.nd.keep (.of_below ((Below.refl _ _).alloc (Nat.le_refl _) _))) wr.heap.size altN nilS rfl (heap_alloc_new _ _) (RngO.nil _ _) (fun _ hb => by cases hb) L HL.out hlen (by simp; omega) ?_; intro g9 cap9 w9 hN9 hg9 ha9)
          have HJ9 : Hid (JnI B p G c l sv w (.slice ao vn vc) (ns0 ++ ns) (vs0 ++ vs1) (x + body.length) g1 w9 _ (j + 1) altN) := HJ.out.push ((Below.refl _ _).alloc (Nat.le_refl _) _) hN9 hg9 (.of ha9)
          clear hN9 hg9 ha9
          go_wp2
          go_roundw
          case rel => exact ⟨j + 1, by omega, by go_num, HJ9⟩
          case measure => simp [intOf]; omega
        · have hjn : j = k := by omega
          subst hjn
          go_wp2
          go_ret
          exact ⟨_, vs1 ++ List.replicate j nilS, rfl, by have := HJ.out.nd; simpa [List.append_assoc] using this, HJ.out.wt, HJ.out.kp, HJ.out.ow, by rw [List.filterMap_append, filterMap_nils, List.append_nil]; exact HBL.out⟩
    · obtain ⟨l2, N2, g3, m3, P4, hm2, hP2, hA2, hR2⟩ := hAb.split
      obtain ⟨q0, q1, q4⟩ := hR2.head (post := post) (by have := H2.out; omega) (by have := H2.out; omega) (by have := H2.out; omega)
      have hdr : l.drop x1 = b :: (mb ++ post) := by rw [HS.out.dr, hmb]; rfl
      have s0 := takes_ok 3 3 rfl (by omega) wr hwt.out (b := true) (by rw [hdr]; simp [headK, hbk]) (x1 + 1) rfl
      have hkn : k + 1 ≤ n := by have := HPl.out; rw [hP2] at this; simp at this; omega
      have hl2 : l2.length ≤ M := by
        have h8 := HS.out.xe
        have h9 := HS.out.le
        have := HM.out
        rw [hmb, hm2] at h8
        simp at h8
        omega
      have hfl : (ns0 ++ P1.flatten).length ≤ 2 * (x1 + 1) := by rw [List.length_append]; have := HS.out.dl; omega
      have hNl := alt_len hA2
      have hSk : ∀ w1, WtT B p G c l sv w1 (x1 + 1) g1 → WKp p none wr w1 → SqI B p G c l sv w (.slice ao vn vc) ns0 vs0 x (x + body.length) post P1.flatten w1 (.slice nao nn nc) (x1 + 1) g1 mb vs1 := fun w1 h1 h2 => HS.out.skip hmb (by omega) h1 h2
      have hC : ∀ W, SqI B p G c l sv w (.slice ao vn vc) ns0 vs0 x (x + body.length) post P1.flatten W (.slice nao nn nc) (x1 + 1) g1 mb vs1 → Calls Tryz.prog 75 #[.pointer (some ⟨p, 0, none⟩), .slice nao nn nc] W (WrR B p G c l sv W (.slice nao nn nc) (ns0 ++ P1.flatten) (vs0 ++ vs1) (x1 + 1 + l2.length) g3 N2 (blF sv (x1 + 1) l2.length)) :=
        fun W hW => seqA_ok HF.out g1 l2 N2 g3 (m3 ++ post) (x1 + 1) _ _ _ W hl2 hA2 (by rw [hW.dr, hm2, List.append_assoc]) q0 q1 q4 hW.wt hW.nd hfl
      have HR : Hid (∀ (w2 w3 : World) (v' : Value) (vs' : List Value), SqI B p G c l sv w (.slice ao vn vc) ns0 vs0 x (x + body.length) post P1.flatten w2 (.slice nao nn nc) (x1 + 1) g1 mb vs1 → NdP B p w3 v' (ns0 ++ P1.flatten ++ N2) (vs0 ++ vs1 ++ vs') → WtT B p G c l sv w3 (x1 + 1 + l2.length) g3 → WKp p (Value.slice nao nn nc).ownBlock w2 w3 → OwnT w2 (.slice nao nn nc) v' → vs'.filterMap Value.ownBlock = blF sv (x1 + 1) l2.length →
          ∃ (k' : Nat) (Q1 Q2 : List (List NodeD)) (x2 g4 : Nat) (m2 : List Tok) (vs2 : List Value), k' ≤ n ∧ Value.int .i64 ((k + 1 : Nat) : Int) = .int .i64 (k' : Int) ∧ Hid (P = Q1 ++ Q2) ∧ Hid (Q2.length + k' = n) ∧ Hid (Rm g4 m2 Q2 g') ∧ Hid (SqI B p G c l sv w (.slice ao vn vc) ns0 vs0 x (x + body.length) post Q1.flatten w3 v' x2 g4 m2 vs2)) :=
        fun w2 w3 v' vs' a1 a2 a3 a4 a5 a6 => ⟨k + 1, P1 ++ [N2], P4, _, _, m3, _, hkn, rfl, (by show _ = _; rw [HPe.out, hP2]; simp), (by show _ = _; have := HPl.out; rw [hP2] at this; simp at this; omega), hR2, (by have := a1.step hm2 hNl (Below.refl _ _) a2 a3 a4 a5 a6; rw [List.flatten_append, List.flatten_singleton]; exact this)⟩
      clear hfl hl2 hdr q0 q1 q4 hA2 hR2 hm2 hP2 hmb hbk hAb
      go_wp2_with fail
      refine s0.mono ?_
      rintro e w1 ⟨rfl, hb1, hb2⟩
      have hS1 := hSk w1 hb1 hb2
      clear s0 hSk hb1 hb2
      go_wp2_with fail
      refine (hC w1 hS1).mono ?_
      rintro e w3 ⟨v', vs', rfl, a2, a3, a4, a5, a6⟩
      have HR2 := hid (HR.out w1 w3 v' vs' hS1 a2 a3 a4 a5 a6)
      clear hC HR a2 a3 a4 a5 a6 hS1
      go_wp2
      go_roundw
      case rel => exact HR2.out
      case measure => simp [intOf]; omega
end Go.Proofs.YtgbdlgogccgciaaGreatDoor
