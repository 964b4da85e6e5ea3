import Derived.Test.YtgbdlgogccgciaaGreatDoorPgQ
import Derived.Test.YtgbdlgogccgciaaGreatDoorPeTPeUPeVStepE
namespace Go.Proofs.YtgbdlgogccgciaaGreatDoor
open Go.RowKit
attribute [local go_sem ↓] Go.wp_at_zero Go.wp_at_succ

/- THE WRITER: a branch. -/
theorem br_parts {g g' : Nat} {body : List Tok} {b : BranchD} (h : Br g body b g') : ∃ (pre mid suf : List Tok) (N : List NodeD), body = pre ++ (mid ++ suf) ∧ AltI g mid N g' ∧ b.nodes = N ∧
    ((pre = [] ∧ b.bol = false) ∨ ∃ x : Tok, pre = [x] ∧ x.kind = 5 ∧ b.bol = true) ∧ ((suf = [] ∧ b.eol = false) ∨ ∃ y : Tok, suf = [y] ∧ y.kind = 6 ∧ b.eol = true) := by
  cases h with
  | none h => exact ⟨[], body, [], _, by simp, ⟨_, _, h, rfl⟩, rfl, .inl ⟨rfl, rfl⟩, .inl ⟨rfl, rfl⟩⟩
  | bol hx h => exact ⟨[_], _, [], _, by simp, ⟨_, _, h, rfl⟩, rfl, .inr ⟨_, rfl, hx, rfl⟩, .inl ⟨rfl, rfl⟩⟩
  | eol hy h => exact ⟨[], _, [_], _, by simp, ⟨_, _, h, rfl⟩, rfl, .inl ⟨rfl, rfl⟩, .inr ⟨_, rfl, hy, rfl⟩⟩
  | both hx hy h => exact ⟨[_], _, [_], _, by simp, ⟨_, _, h, rfl⟩, rfl, .inr ⟨_, rfl, hx, rfl⟩, .inr ⟨_, rfl, hy, rfl⟩⟩
def BrR (B p G c : Nat) (l : List Tok) (sv : Nat → Value) (w : World) (x' g' : Nat) (b : BranchD) (bl : List Nat) (e : Ending) (w' : World) : Prop :=
  ∃ nv vs', e = .returned (.agg #[.bool b.bol, .bool b.eol, nv]) ∧ NdP B p w' nv b.nodes vs' ∧ WtT B p G c l sv w' x' g' ∧ WKp p none w w' ∧ OwnT w nilS nv ∧ vs'.filterMap Value.ownBlock = bl
theorem NdP.keepB {B p : Nat} {W w' : World} {v : Value} {ns : List NodeD} {vs : List Value} (h : NdP B p W v ns vs) (hk : ∀ b, (v.ownBlock = some b ∨ b < p) → b < W.heap.size → w'.heap[b]? = W.heap[b]?) : NdP B p w' v ns vs := by
  obtain ⟨hl, ho, hr⟩ := h
  exact ⟨hl, ownsRow_keep ho fun b hb => hk b (.inl hb) (ownsRow_blk ho hb).2, fun k hk2 => ⟨ownsRow_keep (hr k hk2).1 fun b hb => hk b (.inr ((hr k hk2).2 b hb)) (ownsRow_blk (hr k hk2).1 hb).2, (hr k hk2).2⟩⟩
theorem WKp.cellq {p q : Nat} {W w' : World} (h : WKp p (some q) W w') (o : Nat) (u : Value) : WKp p (some q) W (w'.setCell ⟨q, o, none⟩ u) :=
  ⟨h.os, h.tape, h.output, by simpa [World.setCell] using h.size, fun k hk hp hr => by rw [heap_setCell_other _ _ _ _ (fun e => hr (by rw [e]))]; exact h.block k hk hp hr⟩
theorem altI_head {g g' : Nat} {m : List Tok} {N : List NodeD} (h : AltI g m N g') : m ≠ [] ∧ (headK m = 0 ∨ headK m = 1) := by
  obtain ⟨n, ns, h2, _⟩ := h.gr
  exact ⟨gr_ne h2, by rw [headK_kAt (gr_ne h2)]; exact gr_head h2⟩
set_option maxRecDepth 100000 in
set_option maxHeartbeats 8000000 in
theorem branch_ok {B p G c : Nat} {l : List Tok} {sv : Nat → Value} {g g' : Nat} {body post : List Tok} {b : BranchD} {x : Nat} (w : World) (hB : Br g body b g') (hd : l.drop x = body ++ post) (hp : headK post = 3 ∨ headK post = 7) (hW : WtT B p G c l sv w x g) :
    Calls Tryz.prog 53 #[.pointer (some ⟨p, 0, none⟩)] w (BrR B p G c l sv w (x + body.length) g' b (blF sv x body.length)) := by
  obtain ⟨pre, mid, suf, N, hbd, hA, hbN, hpre, hsuf⟩ := br_parts hB
  obtain ⟨hmn, hmh⟩ := altI_head hA
  have hd0 : l.drop x = pre ++ (mid ++ (suf ++ post)) := by rw [hd, hbd]; simp
  have hd1 : l.drop (x + pre.length) = mid ++ (suf ++ post) := drop_next hd0
  have hd2 : l.drop (x + pre.length + mid.length) = suf ++ post := drop_next hd1
  have hT1 : ∀ W, WtT B p G c l sv W x g → Calls Tryz.prog 54 #[.pointer (some ⟨p, 0, none⟩), .int .i64 5] W fun e w' => e = .returned (.bool b.bol) ∧ WtT B p G c l sv w' (x + pre.length) g ∧ WKp p none W w' := fun W h =>
    takes_ok 5 5 rfl (by omega) W h (by
      rcases hpre with ⟨e, e2⟩ | ⟨y, e, hy, e2⟩
      · rw [e2, hd0, e, List.nil_append, headK_app _ hmn]; symm; exact decide_eq_false (by omega)
      · rw [e2, hd0, e]; simp [headK, hy]) _ (by
      rcases hpre with ⟨e, e2⟩ | ⟨y, e, hy, e2⟩
      · rw [e2, e]; rfl
      · rw [e2, e]; rfl)
  have hq : headK (suf ++ post) ≠ 0 ∧ headK (suf ++ post) ≠ 1 ∧ headK (suf ++ post) ≠ 4 := by
    rcases hsuf with ⟨e, _⟩ | ⟨y, e, hy, _⟩
    · rw [e, List.nil_append]; omega
    · rw [e, show headK ([y] ++ post) = 6 from hy]; omega
  have hC : ∀ W, WtT B p G c l sv W (x + pre.length) g → Calls Tryz.prog 75 #[.pointer (some ⟨p, 0, none⟩), .slice none 0 0] W (WrR B p G c l sv W (.slice none 0 0) [] [] (x + pre.length + mid.length) g' N (blF sv (x + pre.length) mid.length)) := fun W h =>
    seqA_ok (factor_ok mid.length) g mid N g' (suf ++ post) _ _ [] [] W (Nat.le_refl _) hA hd1 hq.1 hq.2.1 hq.2.2 h (NdP.nil _ _ _) (by simp)
  have hT2 : ∀ W, WtT B p G c l sv W (x + pre.length + mid.length) g' → Calls Tryz.prog 54 #[.pointer (some ⟨p, 0, none⟩), .int .i64 6] W fun e w' => e = .returned (.bool b.eol) ∧ WtT B p G c l sv w' (x + body.length) g' ∧ WKp p none W w' := fun W h =>
    takes_ok 6 6 rfl (by omega) W h (by
      rcases hsuf with ⟨e, e2⟩ | ⟨y, e, hy, e2⟩
      · rw [e2, hd2, e, List.nil_append]; symm; exact decide_eq_false (by omega)
      · rw [e2, hd2, e]; simp [headK, hy]) _ (by
      rcases hsuf with ⟨e, e2⟩ | ⟨y, e, hy, e2⟩
      · rw [e2, hbd, e]; simp [Nat.add_assoc]
      · rw [e2, hbd, e]; simp [Nat.add_assoc])
  have HBF : Hid (blF sv x body.length = blF sv (x + pre.length) mid.length) := by
    have hle := drop_le hd hW.st.le
    have hlb : body.length = pre.length + (mid.length + suf.length) := by rw [hbd]; simp
    have h1 : blF sv x pre.length = [] := by
      rcases hpre with ⟨e, _⟩ | ⟨y, e, hy, _⟩
      · rw [e]; rfl
      · rw [e]
        have hdx : l.drop x = y :: (mid ++ (suf ++ post)) := by rw [hd0, e]; rfl
        exact blF_nil hW (drop_head hdx).1 (by unfold kAt; rw [(drop_head hdx).2, hy]; omega)
    have h2 : blF sv (x + pre.length + mid.length) suf.length = [] := by
      rcases hsuf with ⟨e, _⟩ | ⟨y, e, hy, _⟩
      · rw [e]; rfl
      · rw [e] at hd2 ⊢
        exact blF_nil hW (drop_head hd2).1 (by unfold kAt; rw [(drop_head hd2).2, hy]; omega)
    show _ = _
    rw [hlb, blF_app, h1, blF_app, h2, List.append_nil]
    rfl
  obtain ⟨W1, hW1⟩ : ∃ W1, W1 = w.alloc (.cells #[.bool false, .bool false, .slice none 0 0] 43) := ⟨_, rfl⟩
  have hb1 : Below w.heap.size w W1 := by rw [hW1]; exact (Below.refl _ _).alloc (Nat.le_refl _) _
  have hR1 : W1.heap[w.heap.size]? = some (.cells #[.bool false, .bool false, .slice none 0 0] 43 (0, 0)) := by rw [hW1]; exact heap_alloc_new _ _
  have hWp := hW.lt
  have hC1 := hT1 W1 (hW.keep hb1)
  have HbN := hid hbN
  have HW := hid hW
  have HC := hid hC
  have HT2 := hid hT2
  generalize hbb : b.bol = bb at *
  generalize hbe : b.eol = be at *
  have HBB := hid hbb
  have HBE := hid hbe
  clear hd hd0 hd1 hd2 hT1 hq hpre hsuf hA hmh hmn hbd hB hbN hW hC hT2 hbb hbe
  go_enter Tryz.func53, Tryz.ntmps53
  go_wp2_with fail
  rw [← hW1]
  refine hC1.mono ?_
  rintro e w2 ⟨rfl, hT2, hK2⟩
  have hC2 := HC.out w2 hT2
  clear hC1 hT2
  go_wp2_with fail
  refine hC2.mono ?_
  rintro e w3 ⟨v3, vs3, rfl, hN3, hT3, hK3, hO3, hB3⟩
  have hC3 := HT2.out w3 hT3
  obtain ⟨ao3, vn3, vc3, rfl⟩ := hN3.form
  clear hC2 hT3
  go_wp2_with fail
  refine hC3.mono ?_
  rintro e w4 ⟨rfl, hT4, hK4⟩
  have hs12 := hK2.size
  have hR4 : w4.heap[w.heap.size]? = some (.cells #[.bool false, .bool false, .slice none 0 0] 43 (0, 0)) := by
    have hl1 := row_lt hR1
    have hl2 := Nat.lt_of_lt_of_le hl1 hK2.size
    rw [hK4.block _ (Nat.lt_of_lt_of_le hl2 hK3.size) (by omega) (by simp), hK3.block _ hl2 (by omega) (by simp [Value.ownBlock]), hK2.block _ hl1 (by omega) (by simp)]
    exact hR1
  obtain ⟨z0, z1, z2, f0, f1, f2⟩ := row_threeE hR4
  have hK04 : WKp p none w w4 := (((WKp.of_below hb1).next hK2).next hK3).next hK4
  have hown : ∀ b, (Value.slice ao3 vn3 vc3).ownBlock = some b → w.heap.size < b := fun b hb => by
    have hl1 := row_lt hR1
    rcases hO3 b hb with h9 | h9
    · simp [Value.ownBlock] at h9
    · omega
  have HX : Hid (∀ w5, w5 = ((w4.setCell ⟨w.heap.size, 0, none⟩ (.bool bb)).setCell ⟨w.heap.size, 1, none⟩ (.bool be)).setCell ⟨w.heap.size, 2, none⟩ (.slice ao3 vn3 vc3) → BrR B p G c l sv w (x + body.length) g' b (blF sv x body.length) (.returned (.agg #[.bool bb, .bool be, .slice ao3 vn3 vc3])) w5) := by
    intro w5 hw5
    have hk5 : WKp p (some w.heap.size) w4 w5 := by rw [hw5]; exact (((WKp.refl p (some w.heap.size) w4).cellq 0 _).cellq 1 _).cellq 2 _
    refine ⟨_, vs3, by rw [HBB.out, HBE.out], ?_, ?_, ?_, ?_, by rw [HBF.out]; exact hB3⟩
    · rw [HbN.out]
      refine (show NdP B p w4 _ N vs3 from hN3.keep hK4).keepB fun b hb hl => hk5.block b hl (fun e => ?_) (fun e => ?_)
      · rcases hb with hb | hb
        · have := hown b hb; omega
        · omega
      · have e2 : b = w.heap.size := by injection e
        rcases hb with hb | hb
        · have := hown b hb; omega
        · omega
    · refine hT4.to hk5 (fun b e => by injection e with e; omega) ?_ hT4.st.le hT4.gl
      have hne : p ≠ w.heap.size := by omega
      rw [hw5, heap_setCell_other _ _ _ _ hne, heap_setCell_other _ _ _ _ hne, heap_setCell_other _ _ _ _ hne]
      exact hT4.st.box
    · exact ⟨hk5.os.trans hK04.os, hk5.tape.trans hK04.tape, hk5.output.trans hK04.output, Nat.le_trans hK04.size hk5.size, fun k hk hp _ => by rw [hk5.block k (Nat.lt_of_lt_of_le hk hK04.size) hp (fun e => by injection e with e; omega)]; exact hK04.block k hk hp (by simp)⟩
    · exact fun b hb => .inr (Nat.le_of_lt (hown b hb))
  clear hC3 hT4 hK4 hK04 hN3 hK3 hO3 hB3 hown hK2
  go_wp2
  exact bodyPost_ret (v := .agg #[.bool bb, .bool be, .slice ao3 vn3 vc3]) (by simp [results, Tryz.results53, go_sem, z0, z1, z2]) rfl (HX.out _ rfl)
end Go.Proofs.YtgbdlgogccgciaaGreatDoor
namespace Go.Proofs.YtgbdlgogccgciaaGreatDoor
open Go.RowKit
attribute [local go_sem ↓] Go.wp_at_zero Go.wp_at_succ

/- THE WRITER: a rule's branches in memory. -/
structure BrP (B p : Nat) (W : World) (v : Value) (bs : List BranchD) (nvs : List Value) (vss : List (List Value)) : Prop where
  l1 : nvs.length = bs.length
  l2 : vss.length = bs.length
  own : W.ownsRow (p + 1) 43 3 v bs.length (brC bs fun k => nvs.getD k nilS)
  nds : ∀ k, k < bs.length → NdP B p W (nvs.getD k nilS) (bs.getD k .zero).nodes (vss.getD k [])
  nd : (nvs.filterMap Value.ownBlock).Nodup
  ne : ∀ b, v.ownBlock = some b → b ∉ nvs.filterMap Value.ownBlock
theorem mem_blocks {nvs : List Value} {b : Nat} (h : b ∈ nvs.filterMap Value.ownBlock) : ∃ k, k < nvs.length ∧ (nvs.getD k nilS).ownBlock = some b := by
  obtain ⟨v, hv, hb⟩ := List.mem_filterMap.1 h
  obtain ⟨k, hk, he⟩ := List.getElem_of_mem hv
  exact ⟨k, hk, by rw [← hb, ← he]; simp [List.getD, hk]⟩
theorem blocks_mem {nvs : List Value} {b k : Nat} (hk : k < nvs.length) (h : (nvs.getD k nilS).ownBlock = some b) : b ∈ nvs.filterMap Value.ownBlock :=
  List.mem_filterMap.2 ⟨nvs[k], List.getElem_mem hk, by rw [← h]; simp [List.getD, hk]⟩
theorem BrP.lt {B p : Nat} {W : World} {v : Value} {bs : List BranchD} {nvs : List Value} {vss : List (List Value)} (h : BrP B p W v bs nvs vss) : ∀ b, b ∈ nvs.filterMap Value.ownBlock → p < b ∧ b < W.heap.size := fun b hb => by
  obtain ⟨k, hk, he⟩ := mem_blocks hb
  exact (h.nds k (by rw [← h.l1]; exact hk)).own b he
theorem BrP.vlt {B p : Nat} {W : World} {v : Value} {bs : List BranchD} {nvs : List Value} {vss : List (List Value)} (h : BrP B p W v bs nvs vss) : ∀ b, v.ownBlock = some b → p < b ∧ b < W.heap.size := fun _ hb => ⟨(ownsRow_blk h.own hb).1, (ownsRow_blk h.own hb).2⟩
theorem BrP.keepB {B p : Nat} {W w' : World} {v : Value} {bs : List BranchD} {nvs : List Value} {vss : List (List Value)} (h : BrP B p W v bs nvs vss)
    (hk : ∀ b, (v.ownBlock = some b ∨ b ∈ nvs.filterMap Value.ownBlock ∨ b < p) → b < W.heap.size → w'.heap[b]? = W.heap[b]?) : BrP B p w' v bs nvs vss :=
  ⟨h.l1, h.l2, ownsRow_keep h.own fun b hb => hk b (.inl hb) (ownsRow_blk h.own hb).2, fun k hk2 => (h.nds k hk2).keepB fun b hb hl => by
    rcases hb with hb | hb
    · exact hk b (.inr (.inl (blocks_mem (by rw [h.l1]; exact hk2) hb))) hl
    · exact hk b (.inr (.inr hb)) hl, h.nd, h.ne⟩
theorem BrP.keep {B p : Nat} {W w' : World} {v : Value} {bs : List BranchD} {nvs : List Value} {vss : List (List Value)} (h : BrP B p W v bs nvs vss) (hk : WKp p none W w') : BrP B p w' v bs nvs vss :=
  h.keepB fun b hb hl => hk.block b hl (fun e => by
    rcases hb with hb | hb | hb
    · have := h.vlt b hb; omega
    · have := h.lt b hb; omega
    · omega) (by simp)
theorem brC_snoc (bs : List BranchD) (nvs : List Value) (b : BranchD) (nv : Value) (h : nvs.length = bs.length) : brC (bs ++ [b]) (fun k => (nvs ++ [nv]).getD k nilS) = brC bs (fun k => nvs.getD k nilS) ++ br3 b nv := by
  unfold brC
  rw [List.length_append, show [b].length = 1 from rfl, flat_succ]
  congr 1
  · refine flat_congr _ fun k hk => ?_
    show br3 _ ((nvs ++ [nv]).getD k nilS) = br3 _ (nvs.getD k nilS)
    rw [getDsn_lt _ _ _ hk, getDsn_lt _ _ _ (by omega)]
  · show br3 _ ((nvs ++ [nv]).getD bs.length nilS) = _
    rw [getDsn_eq _ _ _ rfl, getDsn_eq _ _ _ h.symm]
theorem nodup_snoc {nvs : List Value} {nv : Value} (h : (nvs.filterMap Value.ownBlock).Nodup) (hn : ∀ b, nv.ownBlock = some b → b ∉ nvs.filterMap Value.ownBlock) : ((nvs ++ [nv]).filterMap Value.ownBlock).Nodup := by
  rw [List.filterMap_append, List.filterMap_cons, List.filterMap_nil]
  cases hv : nv.ownBlock with
  | none => simpa using h
  | some b =>
    refine List.nodup_append.2 ⟨h, by simp, fun a ha c hc => ?_⟩
    have : c = b := by simpa using hc
    subst this
    intro e
    subst e
    exact hn _ hv ha
theorem mem_snoc {nvs : List Value} {nv : Value} {b : Nat} (h : b ∈ (nvs ++ [nv]).filterMap Value.ownBlock) : b ∈ nvs.filterMap Value.ownBlock ∨ nv.ownBlock = some b := by
  rw [List.filterMap_append, List.mem_append] at h
  rcases h with h | h
  · exact .inl h
  · obtain ⟨v, hv, hb⟩ := List.mem_filterMap.1 h
    have : v = nv := by simpa using hv
    subst this
    exact .inr hb
theorem BrP.push {B p : Nat} {W w' : World} {v nv : Value} {bs : List BranchD} {nvs vs : List Value} {vss : List (List Value)} {b : BranchD} {g' L cap' : Nat} (h : BrP B p W v bs nvs vss) (hN : NdP B p W nv b.nodes vs)
    (hn1 : ∀ k, nv.ownBlock = some k → k ∉ nvs.filterMap Value.ownBlock) (hn2 : ∀ k, nv.ownBlock = some k → v.ownBlock ≠ some k) (hL : bs.length = L)
    (ho : w'.ownsRow (p + 1) 43 3 (.slice (some ⟨g', 0, none⟩) (L + 1) cap') (L + 1) (brC bs (fun k => nvs.getD k nilS) ++ br3 b nv)) (hg : W.grownBy w' v.ownBlock) (hat : v.ownBlock = some g' ∨ W.heap.size ≤ g') :
    BrP B p w' (.slice (some ⟨g', 0, none⟩) (L + 1) cap') (bs ++ [b]) (nvs ++ [nv]) (vss ++ [vs]) := by
  subst hL
  have hvl := h.vlt
  refine ⟨by simp [h.l1], by simp [h.l2], by rw [List.length_append, brC_snoc _ _ _ _ h.l1]; exact ho, fun k hk => ?_, nodup_snoc h.nd hn1, fun k hk hm => ?_⟩
  · by_cases e : k < bs.length
    · rw [getDsn_lt _ _ _ e, getDsn_lt _ _ _ (by rw [h.l1]; exact e), getDsn_lt _ _ _ (by rw [h.l2]; exact e)]
      refine (h.nds k e).keepB fun j hj hl => hg.block j hl fun e2 => ?_
      rcases hj with hj | hj
      · exact h.ne j e2.symm (blocks_mem (by rw [h.l1]; exact e) hj)
      · have := hvl j e2.symm; omega
    · have e2 : k = bs.length := by simp at hk; omega
      rw [getDsn_eq _ _ _ e2, getDsn_eq _ _ _ (by rw [h.l1]; exact e2), getDsn_eq _ _ _ (by rw [h.l2]; exact e2)]
      refine hN.keepB fun j hj hl => hg.block j hl fun e3 => ?_
      rcases hj with hj | hj
      · exact hn2 j hj e3.symm
      · have := hvl j e3.symm; omega
  · have e2 : g' = k := by simpa [Value.ownBlock] using hk
    subst e2
    rcases mem_snoc hm with hm | hm
    · rcases hat with ha | ha
      · exact h.ne _ ha hm
      · have := (h.lt _ hm).2; omega
    · rcases hat with ha | ha
      · exact hn2 _ hm ha
      · have := (hN.own _ hm).2; omega
/-- A branch appended, as a step of a region that draws. -/
theorem step_branchP {ops : Array Oper} {o : Oper} {a : Act} {K : Act → World → Prop} {Q : Exit → Act → World → Prop} {E : Prop} {W : World} (hgd : o.guard = none) (s x : Operand)
    (ho : o.op = .call { callee := .builtin .append, args := #[s, x], argTypes := #[22, 22] }) (B p : Nat) (v nv : Value) (bs : List BranchD) (nvs vs : List Value) (vss : List (List Value)) (b : BranchD) (hs : a.eval s = v) (hF : BrP B p W v bs nvs vss) (H : Nat)
    (hrow : W.heap[H]? = some (.cells #[.bool b.bol, .bool b.eol, nv] 43 (0, 0))) (hx : a.eval x = .slice (some ⟨H, 0, none⟩) 1 1) (hN : NdP B p W nv b.nodes vs) (hn1 : ∀ k, nv.ownBlock = some k → k ∉ nvs.filterMap Value.ownBlock) (hn2 : ∀ k, nv.ownBlock = some k → v.ownBlock ≠ some k)
    (L : Nat) (hL : bs.length = L) (hlen : L ≤ 100000) (hB : p < W.heap.size)
    (h : ∀ g' cap' w', BrP B p w' (.slice (some ⟨g', 0, none⟩) (L + 1) cap') (bs ++ [b]) (nvs ++ [nv]) (vss ++ [vs]) → W.grownBy w' v.ownBlock → (v.ownBlock = some g' ∨ W.heap.size ≤ g') → K (a.put o.dst (.slice (some ⟨g', 0, none⟩) (L + 1) cap')) w') :
    if Region.wanted o (yielded ops a.tmps) = true then Oper.wp Tryz.prog o a W K Q else E := by
  obtain ⟨iN, hjN, hyN0, hyN1, hyN2⟩ := info_parts infoBrP
  have hF2 := hF.own
  rw [hL] at hF2
  refine step_append_lies _ hgd s x 22 ho (p + 1) 43 iN _ 3 32 Tryz.underlying22 hjN hyN0 hyN1 hyN2 rfl (by omega) v L _ hs hF2 ⟨H, 0, none⟩ 1 1 (br3 b nv) hx rfl ?_ ?_ (by omega) (by unfold maxLen; omega) (by omega) (by omega) _ rfl ?_
  · intro j u hu
    have e1 : (⟨H, 0, none⟩ : Addr).add j = ⟨H, j, none⟩ := by unfold Addr.add; split <;> simp_all
    rw [e1, cell_of_row _ _ _ _ _ _ hrow]
    have : (#[Value.bool b.bol, .bool b.eol, nv] : Array Value) = (br3 b nv).toArray := rfl
    rw [this, List.getElem?_toArray]
    exact hu
  · intro u hu
    obtain ⟨a3, n3, c3, rfl⟩ := hN.form
    simp [br3] at hu
    rcases hu with rfl | rfl | rfl <;> rfl
  · intro g' cap' w' own4 grow4 at4 _
    exact h g' cap' w' (hF.push hN hn1 hn2 hL own4 grow4 (at4.imp id fun e => by omega)) grow4 (at4.imp id fun e => by omega)
/-- Behind a branch. -/
def RlM (g : Nat) (m : List Tok) (P : List BranchD) (g' : Nat) : Prop := (m = [] ∧ P = [] ∧ g = g') ∨ ∃ (b : Tok) (m2 : List Tok), m = b :: m2 ∧ b.kind = 3 ∧ Rl g m2 P g'
theorem rl_split {g g' : Nat} {m : List Tok} {P : List BranchD} (h : Rl g m P g') : ∃ l1 b g2 m2 P3, m = l1 ++ m2 ∧ P = b :: P3 ∧ Br g l1 b g2 ∧ RlM g2 m2 P3 g' := by
  cases h with
  | one h => exact ⟨m, _, _, [], [], by simp, rfl, h, .inl ⟨rfl, rfl, rfl⟩⟩
  | more h hb h2 => exact ⟨_, _, _, _, _, rfl, rfl, h, .inr ⟨_, _, rfl, hb, h2⟩⟩
theorem RlM.head {g g' : Nat} {m : List Tok} {P : List BranchD} (h : RlM g m P g') : headK m = 3 ∨ headK m = 7 := by
  rcases h with ⟨rfl, _, _⟩ | ⟨b, m2, rfl, hb, _⟩
  · exact .inr rfl
  · exact .inl hb
end Go.Proofs.YtgbdlgogccgciaaGreatDoor
