import Derived.Test.YtgbdlgogccgciaaGreatDoorPgRPgS
import Derived.Test.YtgbdlgogccgciaaGreatDoorPgX
namespace Go.Proofs.YtgbdlgogccgciaaGreatDoor
open Go.RowKit
attribute [local go_sem ↓] Go.wp_at_zero Go.wp_at_succ

/- THE WRITER: a rule. -/
theorem br_ne {g g' : Nat} {l : List Tok} {b : BranchD} (h : Br g l b g') : 0 < l.length := by
  cases h with
  | none h => exact List.length_pos_iff.2 (gr_ne h)
  | bol _ _ => simp
  | eol _ _ => simp
  | both _ _ _ => simp
theorem rl_len {g g' : Nat} {l : List Tok} {bs : List BranchD} (h : Rl g l bs g') : bs.length ≤ l.length := by
  induction h with
  | one h => have := br_ne h; simp; omega
  | more h _ _ ih => simp; omega
structure WrI (B p rb G c : Nat) (l : List Tok) (sv : Nat → Value) (w : World) (bs : List BranchD) (g' : Nat) (wr : World) (x1 g1 : Nat) (m : List Tok) (bs1 bs2 : List BranchD) (v : Value) (nvs : List Value) (vss : List (List Value)) : Prop where
  dr : l.drop x1 = m
  rm : RlM g1 m bs2 g'
  e : bs = bs1 ++ bs2
  wt : WtT B p G c l sv wr x1 g1
  br : BrP B p wr v bs1 nvs vss
  bl : vss.flatten.filterMap Value.ownBlock = blF sv 0 x1
  rrow : wr.heap[w.heap.size]? = some (.cells #[.slice none 0 0, .int .i64 0] 24 (0, 0))
  brow : wr.heap[rb]? = some (.cells #[v, .int .i64 0] 24 (0, 0))
  kb : Below w.heap.size w wr
  ob : ∀ b, (v.ownBlock = some b ∨ b ∈ nvs.filterMap Value.ownBlock) → b ≠ rb
  pr : p < rb
def xOf (p : Nat) (w : World) : Nat := match w.cell? ⟨p, 1, none⟩ with | some v => (intOf v).toNat | none => 0
theorem xOf_eq {B p G c : Nat} {l : List Tok} {sv : Nat → Value} {W : World} {x g : Nat} (h : WtT B p G c l sv W x g) : xOf p W = x := by
  unfold xOf
  rw [(row_threeE h.st.box).2.1]
  simp [intOf]
/-- Tokens and their sets, at the beginning. -/
structure TkA (B : Nat) (W : World) (G : Nat) (l : List Tok) (sv : Nat → Value) : Prop where
  tok : TiV W G l sv
  few : l.length ≤ 2000
  set : ∀ k, k < l.length → kAt l k = 0 → RngO B W (sv k) (rngF (l.getD k tokZ).set 256)
  nil : ∀ k, k < l.length → kAt l k ≠ 0 → sv k = nilS
theorem TkA.below {B : Nat} {W W' : World} {G : Nat} {l : List Tok} {sv : Nat → Value} (h : TkA B W G l sv) (hb : Below W.heap.size W W') : TkA B W' G l sv :=
  ⟨h.tok.below hb, h.few, fun k hk hz => (h.set k hk hz).below hb, h.nil⟩
def RuR (B : Nat) (w : World) (l : List Tok) (sv : Nat → Value) (bs : List BranchD) (g' : Nat) (e : Ending) (w' : World) : Prop :=
  ∃ v nvs vss, e = .returned (.agg #[v, .int .i64 (g' : Int)]) ∧ BrP B (w.heap.size + 1) w' v bs nvs vss ∧ Below w.heap.size w w' ∧ vss.flatten.filterMap Value.ownBlock = blF sv 0 l.length
theorem row_twoE {w : World} {g : Nat} {a b : Value} {t : TypeId} (h : w.heap[g]? = some (.cells #[a, b] t (0, 0))) : w.cell? ⟨g, 0, none⟩ = some a ∧ w.cell? ⟨g, 1, none⟩ = some b ∧ w.frozen? ⟨g, 0, none⟩ = false ∧ w.frozen? ⟨g, 1, none⟩ = false :=
  ⟨row_cells h 0, row_cells h 1, frozen_of_row _ _ _ _ _ h, frozen_of_row _ _ _ _ _ h⟩
theorem enterBranch (xs : Array Value) (w : World) : (callFunc 53 xs).run Tryz.prog w = .ok (.enter 53 xs) w := by kernel_rfl
theorem NdP.keepC {B p : Nat} {W w' : World} {v : Value} {ns : List NodeD} {vs : List Value} (h : NdP B p W v ns vs) (hk : ∀ b, (v.ownBlock = some b ∨ b ∈ vs.filterMap Value.ownBlock) → b < W.heap.size → w'.heap[b]? = W.heap[b]?) : NdP B p w' v ns vs := by
  obtain ⟨hl, ho, hr⟩ := h
  exact ⟨hl, ownsRow_keep ho fun b hb => hk b (.inl hb) (ownsRow_blk ho hb).2, fun k hk2 => ⟨ownsRow_keep (hr k hk2).1 fun b hb => hk b (.inr (blocks_mem (by rw [hl]; exact hk2) hb)) (ownsRow_blk (hr k hk2).1 hb).2, (hr k hk2).2⟩⟩
theorem mem_flat {vss : List (List Value)} {k b : Nat} (hk : k < vss.length) (h : b ∈ (vss.getD k []).filterMap Value.ownBlock) : b ∈ vss.flatten.filterMap Value.ownBlock := by
  obtain ⟨v, hv, hb⟩ := List.mem_filterMap.1 h
  refine List.mem_filterMap.2 ⟨v, List.mem_flatten.2 ⟨vss[k], List.getElem_mem hk, ?_⟩, hb⟩
  rw [show vss.getD k [] = vss[k] by simp [List.getD, hk]] at hv
  exact hv
theorem BrP.keepC {B p : Nat} {W w' : World} {v : Value} {bs : List BranchD} {nvs : List Value} {vss : List (List Value)} (h : BrP B p W v bs nvs vss)
    (hk : ∀ b, (v.ownBlock = some b ∨ b ∈ nvs.filterMap Value.ownBlock ∨ b ∈ vss.flatten.filterMap Value.ownBlock) → b < W.heap.size → w'.heap[b]? = W.heap[b]?) : BrP B p w' v bs nvs vss :=
  ⟨h.l1, h.l2, ownsRow_keep h.own fun b hb => hk b (.inl hb) (ownsRow_blk h.own hb).2, fun k hk2 => (h.nds k hk2).keepC fun b hb hl => by
    rcases hb with hb | hb
    · exact hk b (.inr (.inl (blocks_mem (by rw [h.l1]; exact hk2) hb))) hl
    · exact hk b (.inr (.inr (mem_flat (by rw [h.l2]; exact hk2) hb))) hl, h.nd, h.ne⟩
theorem blF_mem {sv : Nat → Value} {x n b : Nat} (h : b ∈ blF sv x n) : ∃ k, x ≤ k ∧ k < x + n ∧ (sv k).ownBlock = some b := by
  obtain ⟨k, hk, hb⟩ := List.mem_filterMap.1 h
  obtain ⟨i, hi, rfl⟩ := List.mem_range'.1 hk
  exact ⟨_, by omega, by omega, hb⟩
theorem TkA.lt {B : Nat} {W : World} {G : Nat} {l : List Tok} {sv : Nat → Value} (h : TkA B W G l sv) {k b : Nat} (hk : k < l.length) (hb : (sv k).ownBlock = some b) : b < W.heap.size := by
  by_cases hz : kAt l k = 0
  · exact (ownsRow_blk (h.set k hk hz) hb).2
  · rw [h.nil k hk hz] at hb; cases hb
theorem below_wkp {p B : Nat} {w W W' : World} (h : Below B w W) (hs : B ≤ W.heap.size) (hk : WKp p none W W') (hp : B ≤ p) : Below B w W' :=
  ⟨hk.os.trans h.os, hk.tape.trans h.tape, hk.output.trans h.output, Nat.le_trans h.size hk.size, fun k hk2 => by rw [hk.block k (by omega) (by omega) (by simp)]; exact h.block k hk2⟩
theorem WrI.step {B p rb G c : Nat} {l : List Tok} {sv : Nat → Value} {w wr w5 w5d w6 w6a w9 : World} {bs bs1 bs2 P4 : List BranchD} {g' x1 g1 g3 : Nat} {m m3 l2 m4 : List Tok} {b : Tok} {b2 : BranchD} {v v9 nv6 : Value} {nvs vs6 : List Value} {vss : List (List Value)}
    (h : WrI B p rb G c l sv w bs g' wr x1 g1 m bs1 bs2 v nvs vss) (hwp : w.heap.size < p) (hm : m = b :: m3) (hbk : b.kind = 3) (hm3 : m3 = l2 ++ m4) (hb2 : bs2 = b2 :: P4) (hR4 : RlM g3 m4 P4 g') (hK5 : WKp p none wr w5) (hd5 : Below w5.heap.size w5 w5d) (hK6 : WKp p none w5d w6)
    (hT6 : WtT B p G c l sv w6 (x1 + 1 + l2.length) g3) (hO6 : OwnT w5d nilS nv6) (hB6 : vs6.filterMap Value.ownBlock = blF sv (x1 + 1) l2.length) (h6a : Below w6.heap.size w6 w6a) (hP9 : BrP B p w9 v9 (bs1 ++ [b2]) (nvs ++ [nv6]) (vss ++ [vs6])) (hg9 : w6a.grownBy w9 v.ownBlock) (ho9 : OwnT w6a v v9) :
    WrI B p rb G c l sv w bs g' (w9.setCell ⟨rb, 0, none⟩ v9) (x1 + 1 + l2.length) g3 m4 (bs1 ++ [b2]) P4 v9 (nvs ++ [nv6]) (vss ++ [vs6]) := by
  have hpr := h.pr
  have hrbl := row_lt h.brow
  have hrl := row_lt h.rrow
  have s5 := hK5.size
  have s5d := hd5.size
  have s6 := hK6.size
  have s6a := h6a.size
  have s9 := hg9.size
  have hd : l.drop x1 = b :: m3 := by rw [h.dr, hm]
  obtain ⟨hxl, hx0⟩ := drop_head hd
  have hr : ∀ j, v.ownBlock = some j → p < j := fun j hj => (h.br.vlt j hj).1
  have path : ∀ j, j < wr.heap.size → j ≠ p → v.ownBlock ≠ some j → w9.heap[j]? = wr.heap[j]? := fun j hj hp hv => by
    rw [hg9.block j (by omega) (fun e => hv e.symm), h6a.block j (by omega), hK6.block j (by omega) hp (by simp), hd5.block j (by omega), hK5.block j hj hp (by simp)]
  have hv9 : ∀ j, v9.ownBlock = some j → j ≠ rb := fun j hj => by
    rcases ho9 j hj with e | e
    · exact h.ob j (.inl e)
    · omega
  have hn6 : ∀ j, nv6.ownBlock = some j → j ≠ rb := fun j hj => by
    rcases hO6 j hj with e | e
    · cases e
    · omega
  have hob : ∀ j, (v9.ownBlock = some j ∨ j ∈ (nvs ++ [nv6]).filterMap Value.ownBlock) → j ≠ rb := fun j hj => by
    rcases hj with hj | hj
    · exact hv9 j hj
    · rcases mem_snoc hj with hj | hj
      · exact h.ob j (.inr hj)
      · exact hn6 j hj
  have hT9 := (hT6.keep h6a).grown hg9 hr
  have hd1 : l.drop (x1 + 1) = m3 := drop_next (body := [b]) hd
  refine ⟨drop_next (by rw [hd1, hm3]), hR4, by rw [h.e, hb2]; simp, ?_, ?_, ?_, ?_, ?_, ?_, hob, hpr⟩
  · refine hT9.to ((WKp.refl p (some rb) w9).cellq 0 _) (fun j e => by injection e with e; omega) ?_ hT9.st.le hT9.gl
    rw [heap_setCell_other _ _ _ _ (show p ≠ rb by omega)]
    exact hT9.st.box
  · refine hP9.keepB fun j hj hl => heap_setCell_other _ _ _ _ ?_
    rcases hj with hj | hj | hj
    · exact hob j (.inl hj)
    · exact hob j (.inr hj)
    · show j ≠ rb
      omega
  · rw [List.flatten_append, List.flatten_singleton, List.filterMap_append, h.bl, hB6, show x1 + 1 + l2.length = x1 + (1 + l2.length) by omega, blF_app, blF_app, Nat.zero_add, blF_nil h.wt hxl (by unfold kAt; rw [hx0, hbk]; omega)]
    rfl
  · rw [heap_setCell_other _ _ _ _ (show w.heap.size ≠ rb by omega), path _ hrl (by omega) (fun e => by have := hr _ e; omega)]
    exact h.rrow
  · have h9 : w9.heap[rb]? = some (.cells #[v, .int .i64 0] 24 (0, 0)) := by rw [path _ hrbl (by omega) (fun e => h.ob rb (.inl e) rfl)]; exact h.brow
    rw [heap_setCell_same _ _ _ _ _ _ h9]
    rfl
  · have k5 := below_wkp h.kb h.kb.size hK5 (by omega)
    have k5d := below_step k5 k5.size hd5
    have k6 := below_wkp k5d k5d.size hK6 (by omega)
    have k6a := below_step k6 k6.size h6a
    exact (k6a.grown hg9 k6a.size (fun j hj => by have := hr j hj; omega)).setCell (by show w.heap.size ≤ rb; omega) _
theorem WrI.done {B p rb G c : Nat} {l : List Tok} {sv : Nat → Value} {w wr w5 : World} {bs : List BranchD} {g' x1 g1 : Nat} {m : List Tok} {v : Value} {nvs : List Value} {vss : List (List Value)} (h : WrI B p rb G c l sv w bs g' wr x1 g1 m bs [] v nvs vss) (hA : TkA B w G l sv) (hp : p = w.heap.size + 1) (hx : x1 = l.length)
    (hK : WKp p none wr w5) (w7 : World) (hw7 : w7 = ((w5.setCell ⟨rb, 1, none⟩ (.int .i64 (g1 : Int))).setCell ⟨w.heap.size, 0, none⟩ v).setCell ⟨w.heap.size, 1, none⟩ (.int .i64 (g1 : Int))) : RuR B w l sv bs g1 (.returned (.agg #[v, .int .i64 (g1 : Int)])) w7 := by
  have hpr := h.pr
  have k5 := below_wkp h.kb h.kb.size hK (by omega)
  refine ⟨v, nvs, vss, rfl, ?_, ?_, by rw [← hx]; exact h.bl⟩
  · rw [← hp]
    refine (h.br.keep hK).keepC fun j hj hl => ?_
    have hne : j ≠ rb ∧ j ≠ w.heap.size := by
      rcases hj with hj | hj | hj
      · have := (h.br.vlt j hj).1; exact ⟨h.ob j (.inl hj), by omega⟩
      · have := (h.br.lt j hj).1; exact ⟨h.ob j (.inr hj), by omega⟩
      · rw [h.bl] at hj
        obtain ⟨k, _, hk, hb⟩ := blF_mem hj
        have := hA.lt (by omega) hb
        exact ⟨by omega, by omega⟩
    rw [hw7, heap_setCell_other _ _ _ _ hne.2, heap_setCell_other _ _ _ _ hne.2, heap_setCell_other _ _ _ _ hne.1]
  · rw [hw7]
    exact ((k5.setCell (by show w.heap.size ≤ rb; omega) _).setCell (by simp) _).setCell (by simp) _
theorem BrP.one {B p : Nat} {W W' : World} {nv : Value} {b : BranchD} {vs : List Value} {H : Nat} (hN : NdP B p W nv b.nodes vs) (hb : Below W.heap.size W W') (hH : W.heap.size = H) (hp : p < W.heap.size) (hrow : W'.heap[H]? = some (.cells #[.bool b.bol, .bool b.eol, nv] 43 (0, 0))) :
    BrP B p W' (.slice (some ⟨H, 0, none⟩) 1 1) [b] [nv] [vs] := by
  refine ⟨rfl, rfl, ⟨by rw [brC_len], .inr ⟨H, 1, _, rfl, by omega, hrow, Nat.le_refl _, by unfold maxLen; omega, rfl, rfl⟩⟩, fun k hk => ?_, ?_, fun j hj hm => ?_⟩
  · have : k = 0 := by simpa using hk
    subst this
    exact hN.keepB fun b _ hl => hb.block b hl
  · rw [List.filterMap_cons]
    cases nv.ownBlock <;> simp
  · have e2 : H = j := by simpa [Value.ownBlock] using hj
    obtain ⟨k, hk, he⟩ := mem_blocks hm
    have : k = 0 := by simpa using hk
    subst this
    have := (hN.own j he).2
    omega
set_option maxRecDepth 100000 in
set_option maxHeartbeats 8000000 in
theorem writeRule_ok {B G c : Nat} {l : List Tok} {sv : Nat → Value} {bs : List BranchD} {g' : Nat} (w : World) (hR : Rl 0 l bs g') (h : TkA B w G l sv) :
    Calls Tryz.prog 32 #[.slice (some ⟨G, 0, none⟩) l.length c] w (RuR B w l sv bs g') := by
  obtain ⟨l1, b1, g2, m2, P3, hl1, hbs, hBr, hRm⟩ := rl_split hR
  have hbl := rl_len hR
  have hfew := h.few
  obtain ⟨p, hp⟩ : ∃ p, p = w.heap.size + 1 := ⟨_, rfl⟩
  obtain ⟨W1, hW1⟩ : ∃ W1, W1 = (w.alloc (.cells #[.slice none 0 0, .int .i64 0] 24)).alloc (.cells #[.slice (some ⟨G, 0, none⟩) l.length c, .int .i64 0, .int .i64 0] 113) := ⟨_, rfl⟩
  have hb1 : Below w.heap.size w W1 := by rw [hW1]; exact ((Below.refl _ _).alloc (Nat.le_refl _) _).alloc (by simp) _
  have hr1 : W1.heap[w.heap.size]? = some (.cells #[.slice none 0 0, .int .i64 0] 24 (0, 0)) := by rw [hW1]; exact row_alloc (heap_alloc_new _ _)
  have hx1 : W1.heap[p]? = some (.cells #[.slice (some ⟨G, 0, none⟩) l.length c, .int .i64 ((0 : Nat) : Int), .int .i64 ((0 : Nat) : Int)] 113 (0, 0)) := by
    rw [hW1, hp]
    have := heap_alloc_new (w.alloc (.cells #[.slice none 0 0, .int .i64 0] 24)) (.cells #[.slice (some ⟨G, 0, none⟩) l.length c, .int .i64 0, .int .i64 0] 113)
    rw [show (w.alloc (.cells #[.slice none 0 0, .int .i64 0] 24)).heap.size = w.heap.size + 1 by simp] at this
    exact this
  have hA1 := h.below hb1
  have hT1 : WtT B p G c l sv W1 0 0 := by
    have hGl := h.tok.lt
    refine ⟨⟨hx1, hA1.tok, hfew, Nat.zero_le _, by omega⟩, by omega, hA1.set, h.nil, fun k hk b hb => ?_, Nat.le_refl _⟩
    by_cases hz : kAt l k = 0
    · have := (ownsRow_blk (h.set k hk hz) hb).2; omega
    · rw [h.nil k hk hz] at hb; cases hb
  have hC := branch_ok (b := b1) (post := m2) W1 hBr (show l.drop 0 = l1 ++ m2 from hl1) hRm.head hT1
  rw [Nat.zero_add] at hC
  obtain ⟨n, hn⟩ : ∃ n, n = l.length := ⟨_, rfl⟩
  have Hn := hid hn
  have HRm := hid hRm
  have Hbs := hid hbs
  have Hbl := hid hbl
  have Hl1 := hid hl1
  have Hp := hid hp
  have Hr1 := hid hr1
  have HT1 := hid hT1
  clear hRm hbs hbl hl1 hfew hR hBr hA1 hx1 hr1 hT1
  go_enter Tryz.func32, Tryz.ntmps32
  go_wp2_with fail
  rw [← hW1]
  try rw [← hp]
  clear hp hn
  refine hC.mono ?_
  rintro e w2 ⟨nv, vs2, rfl, hN2, hT2, hK2, hO2, hB2⟩
  clear hC
  obtain ⟨nao, nn, nc, rfl⟩ := hN2.form
  have hp2 := hT2.lt
  have hwp : w.heap.size < p := by have := Hp.out; omega
  have hK01 : Below w.heap.size w w2 := ⟨hK2.os.trans hb1.os, hK2.tape.trans hb1.tape, hK2.output.trans hb1.output, Nat.le_trans hb1.size hK2.size, fun k hk => by rw [hK2.block k (Nat.lt_of_lt_of_le hk hb1.size) (by omega) (by simp)]; exact hb1.block k hk⟩
  have HST : ∀ W4, W4 = (w2.alloc (.cells #[.bool b1.bol, .bool b1.eol, .slice nao nn nc] 43)).alloc (.cells #[.slice (some ⟨w2.heap.size, 0, none⟩) 1 1, .int .i64 0] 24) →
      Hid (WrI B p (w2.heap.size + 1) G c l sv w bs g' W4 l1.length g2 m2 [b1] P3 (.slice (some ⟨w2.heap.size, 0, none⟩) 1 1) [.slice nao nn nc] [vs2]) := by
    intro W4 hW4
    have hb4 : Below w2.heap.size w2 W4 := by rw [hW4]; exact ((Below.refl _ _).alloc (Nat.le_refl _) _).alloc (by simp) _
    have hrow : W4.heap[w2.heap.size]? = some (.cells #[.bool b1.bol, .bool b1.eol, .slice nao nn nc] 43 (0, 0)) := by rw [hW4]; exact row_alloc (heap_alloc_new _ _)
    have hrb : W4.heap[w2.heap.size + 1]? = some (.cells #[.slice (some ⟨w2.heap.size, 0, none⟩) 1 1, .int .i64 0] 24 (0, 0)) := by
      rw [hW4]
      have := heap_alloc_new (w2.alloc (.cells #[.bool b1.bol, .bool b1.eol, .slice nao nn nc] 43)) (.cells #[.slice (some ⟨w2.heap.size, 0, none⟩) 1 1, .int .i64 0] 24)
      rw [show (w2.alloc (.cells #[.bool b1.bol, .bool b1.eol, .slice nao nn nc] 43)).heap.size = w2.heap.size + 1 by simp] at this
      exact this
    refine ⟨?_, HRm.out, Hbs.out, hT2.keep hb4, BrP.one hN2 hb4 rfl hp2 hrow, by simpa using hB2, ?_, hrb, below_step hK01 hK01.size hb4, fun b hb => ?_, by omega⟩
    · have h9 := Hl1.out; rw [h9, List.drop_left]
    · have hlt := row_lt Hr1.out
      have : w2.heap[w.heap.size]? = some (.cells #[.slice none 0 0, .int .i64 0] 24 (0, 0)) := by rw [hK2.block _ hlt (by omega) (by simp)]; exact Hr1.out
      exact row_below this hb4
    · rcases hb with hb | hb
      · have : w2.heap.size = b := by simpa [Value.ownBlock] using hb
        omega
      · obtain ⟨k, hk, he⟩ := mem_blocks hb
        have : k = 0 := by simpa using hk
        subst this
        have := (hN2.own b he).2
        omega
  have hLL : l.length ≤ 2000 := h.few
  clear hN2 hT2 hK2 hO2 hB2 hW1 hb1 hK01
  go_wp2
  generalize hrb : w2.heap.size + 1 = rb at *
  go_loopw [] (fun wr => ∃ x1 g1 m bs1 bs2 v nvs vss, Hid (WrI B p rb G c l sv w bs g' wr x1 g1 m bs1 bs2 v nvs vss)) (fun wr => l.length - xOf p wr)
  case atStart => exact ⟨_, _, _, _, _, _, _, _, HST _ rfl⟩
  case round =>
    clear HST
    obtain ⟨x1, g1, m, bs1, bs2, v, nvs, vss, HI⟩ := hrel
    have hI := HI.out
    have hvf : ∃ ao vn vc, v = .slice ao vn vc := by
      rcases hI.br.own.2 with ⟨e, _⟩ | ⟨g, cap, _, e, _⟩
      · exact ⟨_, _, _, e⟩
      · exact ⟨_, _, _, e⟩
    obtain ⟨ao, vn, vc, rfl⟩ := hvf
    rcases hI.rm with ⟨hm0, hb0, hg0⟩ | ⟨b, m3, hm3, hbk, hRl⟩
    · subst hg0
      have hdr := hI.dr
      rw [hm0] at hdr
      have hx1 : x1 = l.length := by have := congrArg List.length hdr; have := hI.wt.st.le; simp at *; omega
      have s0 := takes_ok 3 3 rfl (by omega) wr hI.wt (b := false) (by rw [hdr]; rfl) x1 rfl
      have hbse : bs1 = bs := by have := hI.e; rw [hb0, List.append_nil] at this; exact this.symm
      subst hb0
      subst hbse
      have HF : Hid (∀ w5, WKp p none wr w5 → ∀ w7, w7 = ((w5.setCell ⟨rb, 1, none⟩ (.int .i64 (g1 : Int))).setCell ⟨w.heap.size, 0, none⟩ (.slice ao vn vc)).setCell ⟨w.heap.size, 1, none⟩ (.int .i64 (g1 : Int)) → RuR B w l sv bs1 g1 (.returned (.agg #[.slice ao vn vc, .int .i64 (g1 : Int)])) w7) :=
        fun w5 hK w7 hw7 => hI.done h Hp.out hx1 hK w7 hw7
      clear hI hdr hx1
      go_wp2_with fail
      refine s0.mono ?_
      rintro e w5 ⟨rfl, hT5, hK5⟩
      have hrow5 : w5.heap[rb]? = some (.cells #[.slice ao vn vc, .int .i64 0] 24 (0, 0)) := by rw [hK5.block rb (row_lt HI.out.brow) (by have := HI.out.pr; omega) (by simp)]; exact HI.out.brow
      have hres5 : w5.heap[w.heap.size]? = some (.cells #[.slice none 0 0, .int .i64 0] 24 (0, 0)) := by rw [hK5.block _ (row_lt HI.out.rrow) (by omega) (by simp)]; exact HI.out.rrow
      obtain ⟨z0, z1, z2, -, -, -⟩ := row_threeE hT5.st.box
      obtain ⟨r0, r1, f0, f1⟩ := row_twoE hrow5
      obtain ⟨q0, q1, e0, e1⟩ := row_twoE hres5
      have HFX := hid (HF.out w5 hK5)
      have hne1 : rb ≠ w.heap.size := by have := HI.out.pr; omega
      clear s0 HF hT5 hK5 hrow5 hres5 z0 z1
      go_wp2
      exact bodyPost_ret (v := .agg #[.slice ao vn vc, .int .i64 (g1 : Int)]) (by simp [results, Tryz.results32, go_sem, q0, q1]) rfl (HFX.out _ rfl)
    · obtain ⟨l2, b2, g3, m4, P4, hl2, hb2, hBr2, hR4⟩ := rl_split hRl
      have hdr : l.drop x1 = b :: m3 := by rw [hI.dr, hm3]
      have s0 := takes_ok 3 3 rfl (by omega) wr hI.wt (b := true) (by rw [hdr]; simp [headK, hbk]) (x1 + 1) rfl
      have hd0 : l.drop (x1 + 1) = m3 := drop_next (body := [b]) hdr
      have hd1 : l.drop (x1 + 1) = l2 ++ m4 := by rw [hd0, hl2]
      have HC : Hid (∀ W, WtT B p G c l sv W (x1 + 1) g1 → Calls Tryz.prog 53 #[.pointer (some ⟨p, 0, none⟩)] W fun e w' => ∃ u, e = .returned u ∧ ∃ nv vs', u = .agg #[.bool b2.bol, .bool b2.eol, nv] ∧ NdP B p w' nv b2.nodes vs' ∧ WtT B p G c l sv w' (x1 + 1 + l2.length) g3 ∧ WKp p none W w' ∧ OwnT W nilS nv ∧ vs'.filterMap Value.ownBlock = blF sv (x1 + 1) l2.length) := fun W hW =>
        (branch_ok (b := b2) (post := m4) W hBr2 hd1 hR4.head hW).mono fun e w' ⟨nv, vs', h1, h2⟩ => ⟨_, h1, nv, vs', rfl, h2⟩
      have HS := hid (fun (w5 w5d w6 w6a w9 : World) (v9 nv6 : Value) (vs6 : List Value) a1 a2 a3 a4 a5 a6 a7 a8 a9 a10 => hI.step (w5 := w5) (w5d := w5d) (w6 := w6) (w6a := w6a) (w9 := w9) (v9 := v9) (nv6 := nv6) (vs6 := vs6) hwp hm3 hbk hl2 hb2 hR4 a1 a2 a3 a4 a5 a6 a7 a8 a9 a10)
      obtain ⟨L, HL⟩ : ∃ L, Hid (bs1.length = L) := ⟨_, rfl⟩
      have hL9 : L ≤ 100000 := by have q1 := HL.out; have q2 := Hbl.out; have q3 := congrArg List.length hI.e; simp at q3; omega
      have hxm : l.length - (x1 + 1 + l2.length) < l.length - x1 := by have := (drop_head hdr).1; omega
      have HXM := hid hxm
      have hxo : xOf p wr = x1 := xOf_eq hI.wt
      have HXO := hid hxo
      clear hI hdr hd0 hd1 hm3 hbk hRl hl2 hb2 hBr2 hR4 hxm hxo
      go_wp2_with fail
      refine s0.mono ?_
      rintro e w5 ⟨rfl, hT5, hK5⟩
      have hrow5 : w5.heap[rb]? = some (.cells #[.slice ao vn vc, .int .i64 0] 24 (0, 0)) := by rw [hK5.block rb (row_lt HI.out.brow) (by have := HI.out.pr; omega) (by simp)]; exact HI.out.brow
      obtain ⟨r0, r1, f0, f1⟩ := row_twoE hrow5
      have hdw : Below w5.heap.size w5 w5.drew := (Below.refl _ _).drew
      have hCE := HC.out w5.drew (hT5.keep hdw)
      have HP5 := hid (HI.out.br.keep hK5)
      have HK5 := hid hK5
      have HR5 := hid hrow5
      clear s0 HC hT5 hK5 r1 f1
      go_upto_region 4 with fail
      go_region_law ((first
        | (refine step_goE (by rfl) 53 #[.tmp 16] #[111] (by rfl) #[.pointer (some ⟨p, 0, none⟩)] (by simp [Act.eval, Act.put]) _ (enterBranch _ _) hCE ?_; rintro _ w6 ⟨nv6, vs6, rfl, hN6, hT6, hK6, hO6, hB6⟩; obtain ⟨nao6, nn6, nc6, rfl⟩ := hN6.form; have hrow6 : w6.heap[rb]? = some (.cells #[.slice ao vn vc, .int .i64 0] 24 (0, 0)) := (by rw [hK6.block rb (row_lt (row_below hrow5 hdw)) (by have := HI.out.pr; omega) (by simp)]; exact row_below hrow5 hdw); have hba : Below w6.heap.size w6 (w6.alloc (.cells #[.bool b2.bol, .bool b2.eol, .slice nao6 nn6 nc6] 43)) := (Below.refl _ _).alloc (Nat.le_refl _) _; obtain ⟨t0, -, -, -⟩ := row_twoE hrow6; obtain ⟨s0, -, -, -⟩ := row_twoE (row_below hrow6 hba); have hn1 : ∀ k, (Value.slice nao6 nn6 nc6).ownBlock = some k → k ∉ nvs.filterMap Value.ownBlock := (fun k hk hm => by rcases hO6 k hk with e | e; (cases e); (have := (HP5.out.lt k hm).2; have := hdw.size; omega)); have hn2 : ∀ k, (Value.slice nao6 nn6 nc6).ownBlock = some k → (Value.slice ao vn vc).ownBlock ≠ some k := (fun k hk hm => by rcases hO6 k hk with e | e; (cases e); (have := (HP5.out.vlt k hm).2; have := hdw.size; omega)); have hpa : p < (w6.alloc (.cells #[.bool b2.bol, .bool b2.eol, .slice nao6 nn6 nc6] 43)).heap.size := Nat.lt_of_lt_of_le hT6.lt hba.size; have HPA := hid ((((HP5.out.keep (.of_below hdw)).keep hK6).keep (.of_below hba))); have HNA := hid (hN6.keep (.of_below hba)); have HT6 := hid hT6; have HK6 := hid hK6; have HO6 := hid hO6; have HB6 := hid hB6; have HRA := hid (row_below hrow6 hba); clear hT6 hK6 hO6 hB6 hN6 hrow6)
        | (refine step_branchP (by rfl) (.tmp 15) (.tmp 18) (by rfl) B p (.slice ao vn vc) (.slice nao6 nn6 nc6) bs1 nvs vs6 vss b2 (by rfl) HPA.out w6.heap.size (heap_alloc_new _ _) (by rfl) HNA.out hn1 hn2 L HL.out hL9 hpa ?_; intro g9 cap9 w9 hP9 hg9 ha9; have hrow9 : w9.heap[rb]? = some (.cells #[.slice ao vn vc, .int .i64 0] 24 (0, 0)) := (by rw [hg9.block rb (row_lt HRA.out) (fun e => HI.out.ob rb (.inl e.symm) rfl)]; exact HRA.out); obtain ⟨t9, -, ft9, -⟩ := row_twoE hrow9; have HX := hid (HS.out w5 w5.drew w6 _ w9 (.slice (some ⟨g9, 0, none⟩) (L + 1) cap9) (.slice nao6 nn6 nc6) vs6 HK5.out hdw HK6.out HT6.out HO6.out HB6.out hba hP9 hg9 (.of ha9)); clear hP9 hg9 ha9 hrow9)
        | fail))
      all_goals
        go_wp2
        go_roundw
        case rel => exact ⟨_, _, _, _, _, _, _, _, HX⟩
        case measure => rw [xOf_eq HX.out.wt, HXO.out]; exact HXM.out
end Go.Proofs.YtgbdlgogccgciaaGreatDoor
namespace Go.Proofs.YtgbdlgogccgciaaGreatDoor
open Go.RowKit
attribute [local go_sem ↓] Go.wp_at_zero Go.wp_at_succ

/- THE TOKENS, THE CODE's SIDE. -/
theorem infoTkiP : (Tryz.prog.info? 105).map (fun i => (i.zero, i.size, i.bytes)) = some (some (.agg #[.int .i64 0, .int .i64 0, .slice none 0 0, .int .i64 0, .int .i64 0]), 5, 56) := by kernel_rfl
def tkL (l : List Tok) (svs : List Value) : List Value := (List.range l.length).flatMap fun k => tk5i (l.getD k tokZ) (svs.getD k nilS)
theorem tkL_len (l : List Tok) (svs : List Value) : (tkL l svs).length = l.length * 5 := flat_len (f := fun k => tk5i (l.getD k tokZ) (svs.getD k nilS)) (fun _ => rfl) _
theorem tkL_get (l : List Tok) (svs : List Value) {k j : Nat} (hk : k < l.length) (hj : j < 5) : (tkL l svs)[k * 5 + j]? = (tk5i (l.getD k tokZ) (svs.getD k nilS))[j]? := flat_get (f := fun k => tk5i (l.getD k tokZ) (svs.getD k nilS)) (sz := 5) (fun _ => rfl) _ _ _ hk hj
theorem tkL_snoc (l : List Tok) (svs : List Value) (x : Tok) (sx : Value) (h : svs.length = l.length) : tkL (l ++ [x]) (svs ++ [sx]) = tkL l svs ++ tk5i x sx := by
  unfold tkL
  rw [List.length_append, show [x].length = 1 from rfl, flat_succ]
  congr 1
  · refine flat_congr _ fun k hk => ?_
    rw [getDsn_lt _ _ _ hk, getDsn_lt _ _ _ (by omega)]
  · rw [getDsn_eq _ _ _ rfl, getDsn_eq _ _ _ h.symm]
structure TkP (B : Nat) (W : World) (v : Value) (l : List Tok) (svs : List Value) : Prop where
  len : svs.length = l.length
  own : W.ownsRow B 105 5 v l.length (tkL l svs)
  set : ∀ k, k < l.length → kAt l k = 0 → RngO B W (svs.getD k nilS) (rngF (l.getD k tokZ).set 256)
  nil : ∀ k, k < l.length → kAt l k ≠ 0 → svs.getD k nilS = nilS
  kin : ∀ k, k < l.length → kAt l k < 7
  nd : (svs.filterMap Value.ownBlock).Nodup
  ne : ∀ b, v.ownBlock = some b → b ∉ svs.filterMap Value.ownBlock
  sm : ∃ g n c, v = .slice (some ⟨g, 0, none⟩) n c
theorem TkP.lt {B : Nat} {W : World} {v : Value} {l : List Tok} {svs : List Value} (h : TkP B W v l svs) {b : Nat} (hb : b ∈ svs.filterMap Value.ownBlock) : B ≤ b ∧ b < W.heap.size := by
  obtain ⟨k, hk, he⟩ := mem_blocks hb
  rw [h.len] at hk
  by_cases hz : kAt l k = 0
  · exact ownsRow_blk (h.set k hk hz) he
  · rw [h.nil k hk hz] at he; cases he
theorem TkP.vlt {B : Nat} {W : World} {v : Value} {l : List Tok} {svs : List Value} (h : TkP B W v l svs) {b : Nat} (hb : v.ownBlock = some b) : B ≤ b ∧ b < W.heap.size := ownsRow_blk h.own hb
theorem TkP.keep {B : Nat} {W W' : World} {v : Value} {l : List Tok} {svs : List Value} (h : TkP B W v l svs) (hk : ∀ b, b < W.heap.size → W'.heap[b]? = W.heap[b]?) : TkP B W' v l svs :=
  ⟨h.len, ownsRow_keep h.own fun b hb => hk b (h.vlt hb).2, fun k hk2 hz => ownsRow_keep (h.set k hk2 hz) fun b hb => hk b (ownsRow_blk (h.set k hk2 hz) hb).2, h.nil, h.kin, h.nd, h.ne, h.sm⟩
theorem TkP.push {B : Nat} {W w' : World} {v sx : Value} {l : List Tok} {svs : List Value} {x : Tok} {g' L cap' : Nat} (h : TkP B W v l svs) (hk7 : x.kind < 7) (h0 : x.kind = 0 → RngO B W sx (rngF x.set 256)) (h1 : x.kind ≠ 0 → sx = nilS)
    (hn1 : ∀ b, sx.ownBlock = some b → b ∉ svs.filterMap Value.ownBlock ∧ v.ownBlock ≠ some b) (hL : l.length = L)
    (ho : w'.ownsRow B 105 5 (.slice (some ⟨g', 0, none⟩) (L + 1) cap') (L + 1) (tkL l svs ++ tk5i x sx)) (hg : W.grownBy w' v.ownBlock) (hat : v.ownBlock = some g' ∨ W.heap.size ≤ g') : TkP B w' (.slice (some ⟨g', 0, none⟩) (L + 1) cap') (l ++ [x]) (svs ++ [sx]) := by
  subst hL
  have hkk : ∀ k, k < l.length → kAt (l ++ [x]) k = kAt l k := fun k hk => by unfold kAt; rw [getDsn_lt _ _ _ hk]
  have hkl : kAt (l ++ [x]) l.length = x.kind := by unfold kAt; rw [getDsn_eq _ _ _ rfl]
  have key : ∀ s rs, RngO B W s rs → (∀ b, s.ownBlock = some b → v.ownBlock ≠ some b) → RngO B w' s rs := fun s rs h1 h2 => ownsRow_keep h1 fun b hb => hg.block b (ownsRow_blk h1 hb).2 fun e => h2 b hb e.symm
  have two : ∀ k, k < (l ++ [x]).length → k < l.length ∨ k = l.length := fun k hk => by simp at hk; omega
  refine ⟨by simp [h.len], by rw [List.length_append, tkL_snoc _ _ _ _ h.len]; exact ho, fun k hk hz => ?_, fun k hk hz => ?_, fun k hk => ?_, nodup_snoc h.nd fun b hb => (hn1 b hb).1, fun b hb hm => ?_, ⟨_, _, _, rfl⟩⟩
  · rcases two k hk with e | e
    · rw [hkk k e] at hz
      rw [getDsn_lt _ _ _ e, getDsn_lt _ _ _ (by rw [h.len]; exact e)]
      exact key _ _ (h.set k e hz) fun b hb hv => h.ne b hv (blocks_mem (by rw [h.len]; exact e) hb)
    · subst e
      rw [hkl] at hz
      rw [getDsn_eq _ _ _ rfl, getDsn_eq _ _ _ h.len.symm]
      exact key _ _ (h0 hz) fun b hb => (hn1 b hb).2
  · rcases two k hk with e | e
    · rw [hkk k e] at hz
      rw [getDsn_lt _ _ _ (by rw [h.len]; exact e)]
      exact h.nil k e hz
    · subst e
      rw [hkl] at hz
      rw [getDsn_eq _ _ _ h.len.symm]
      exact h1 hz
  · rcases two k hk with e | e
    · rw [hkk k e]; exact h.kin k e
    · subst e; rw [hkl]; exact hk7
  · have e2 : g' = b := by simpa [Value.ownBlock] using hb
    subst e2
    rcases mem_snoc hm with hm | hm
    · rcases hat with ha | ha
      · exact h.ne _ ha hm
      · have := (h.lt hm).2; omega
    · rcases hat with ha | ha
      · exact (hn1 _ hm).2 ha
      · by_cases hz : x.kind = 0
        · have := (ownsRow_blk (h0 hz) hm).2; omega
        · rw [h1 hz] at hm; cases hm
/-- The tokens read again. -/
theorem TkP.to {B : Nat} {W : World} {v : Value} {l : List Tok} {svs : List Value} (h : TkP B W v l svs) (hf : l.length ≤ 2000) : ∃ G c, v = .slice (some ⟨G, 0, none⟩) l.length c ∧ TkA B W G l (fun k => svs.getD k nilS) ∧ blF (fun k => svs.getD k nilS) 0 l.length = svs.filterMap Value.ownBlock := by
  rcases h.own.2 with ⟨e, _⟩ | ⟨g, cap, cur, e, hg, hh, h1, h2, h3, h4⟩
  · obtain ⟨g, n, c, e2⟩ := h.sm
    rw [e] at e2
    cases e2
  · refine ⟨g, cap, e, ⟨⟨row_lt hh, fun k hk j hj => ?_, h.kin, fun k hk => ?_⟩, hf, h.set, h.nil⟩, ?_⟩
    · have ho := h.own
      rw [e] at ho
      rw [ho.cellAt (k * 5 + j) (by omega), tkL_get _ _ hk hj]
    · by_cases hz : kAt l k = 0
      · exact (h.set k hk hz).form
      · exact ⟨none, 0, 0, h.nil k hk hz⟩
    · unfold blF
      rw [← h.len]
      have : ∀ (l : List Value), (List.range' 0 l.length).filterMap (fun k => (l.getD k nilS).ownBlock) = l.filterMap Value.ownBlock := fun l => by
        have h9 : l = (List.range' 0 l.length).map fun k => l.getD k nilS := by
          apply List.ext_getElem
          · simp
          · intro n h1 h2
            simp at h2
            simp [List.getD, h2]
        conv => rhs; rw [h9]
        rw [List.filterMap_map]
        rfl
      exact this svs
/-- What readTokens answers. -/
def RtA (w : World) (s : List UInt8) (e : Ending) (w' : World) : Prop := Below w.heap.size w w' ∧ ∀ l c i, lexF s 0 [] = (l, c, i) →
  (c ≠ 0 → e = .returned (.tuple #[.slice none 0 0, faultV c i])) ∧
  (c = 0 → ∃ G cap sv, e = .returned (.tuple #[.slice (some ⟨G, 0, none⟩) l.length cap, .nilIface]) ∧ TkA w.heap.size w' G l sv ∧ (blF sv 0 l.length).Nodup)
end Go.Proofs.YtgbdlgogccgciaaGreatDoor

