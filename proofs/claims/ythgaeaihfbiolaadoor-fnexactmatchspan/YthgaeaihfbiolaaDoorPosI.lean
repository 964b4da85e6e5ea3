import Derived.Test.YthgaeaihfbiolaaDoorWrt
import Derived.Test.YthgaeaihfbiolaaDoorStep
import Derived.Deep.RegionHeld3
namespace Go.Proofs.YthgaeaihfbiolaaDoor
open Go.RowKit
attribute [local go_sem ↓] Go.wp_at_zero Go.wp_at_succ

theorem slice_formP {w : World} {B n : Nat} {e : TypeId} {v : Value} {xs : List Value} (h : w.ownsRow B e 1 v n xs) : ∃ a c, v = .slice a n c := by
  rcases h.2 with ⟨rfl, rfl⟩ | ⟨g, cap, _, rfl, _⟩
  · exact ⟨none, 0, rfl⟩
  · exact ⟨_, _, rfl⟩
theorem own_type {w : World} {B n k : Nat} {e : TypeId} {v : Value} {xs : List Value} (h : w.ownsRow B e 1 v n xs) (hk : v.ownBlock = some k) : B ≤ k ∧ ∃ cur, w.heap[k]? = some (.cells cur e (0, 0)) := by
  rcases h.2 with ⟨rfl, _⟩ | ⟨g, cap, cur, rfl, hg, hh, _⟩
  · simp [Value.ownBlock] at hk
  · simp [Value.ownBlock] at hk
    subst hk
    exact ⟨hg, cur, hh⟩
theorem Tryd.infoPtrMarks : (Tryd.prog.info? 83).map (fun i => (i.zero, i.size, i.bytes)) = some (some (.pointer none), 1, 8) := by kernel_rfl
theorem Tryd.infoPosSet : (Tryd.prog.info? 48).map (fun i => (i.zero, i.size, i.bytes)) = some (some (.slice none 0 0), 1, 24) := by kernel_rfl

def appP (ats : Array TypeId) (ty : TypeId) (args : Array Value) : Sem Value := Builtin.append_ ats ty args
theorem append_appP (ty : TypeId) (args : Array Value) : Builtin.append_ #[76, 76] ty args = appP #[76, 76] ty args := rfl
theorem step_appP {P : Program} {ops : Array Oper} {o : Oper} {a : Act} {w : World} {K : Act → World → Prop} {Q : Exit → Act → World → Prop} {E : Prop} (hgd : o.guard = none) (s x : Operand) (t : TypeId) (hop : o.op = Op.call { callee := Callee.builtin Builtin.append, args := #[s, x], argTypes := #[t, t] }) (u y : Value) (hu : a.eval s = u) (hy : a.eval x = y) (v : Value) (w' : World)
    (hrun : (appP #[t, t] o.type #[u, y]).run P w = .ok v w') (hK : K (a.put o.dst v) w') : if Region.wanted o (yielded ops a.tmps) = true then Oper.wp P o a w K Q else E := by
  have hw : Region.wanted o (yielded ops a.tmps) = true := by simp [Region.wanted, hgd]
  rw [if_pos hw]
  unfold appP at hrun
  unfold Oper.wp
  simp [execOp, hop, resolve, invoke, builtin, hu, hy, hrun, Result.andThen]
  exact hK
theorem enterNone (xs : Array Value) (w : World) : (callFunc 35 xs).run Tryd.prog w = .ok (.enter 35 xs) w := by kernel_rfl
theorem succ_formP {w : World} {B n : Nat} {e : TypeId} {v : Value} {xs : List Value} (h : w.ownsRow B e 1 v (n + 1) xs) : ∃ g c, v = .slice (some ⟨g, 0, none⟩) (n + 1) c := by
  rcases h.2 with ⟨_, h0⟩ | ⟨g, cap, _, rfl, _⟩
  · omega
  · exact ⟨_, _, rfl⟩

/-- Where position's second append goes. -/
theorem app_follow (B n nw bt gn : Nat) (fv r : Value) (fr : Nat → Nat) (w7 : World) (hfo : w7.ownsRow B 48 1 fv n (slcL fr nw n)) (hbx : w7.heap[bt]? = some (.cells #[.int .i64 nw, r, fv] 78 (0, 0))) (hB : B ≤ w7.heap.size) (hn : n ≤ 64000) :
    ∃ g8 cap8 w8, (appP #[76, 76] 76 #[fv, .slice (some ⟨w7.heap.size, 0, none⟩) 1 1]).run Tryd.prog (w7.alloc (.cells #[.slice (some ⟨gn, 0, none⟩) nw nw] 48)) = .ok (.slice (some ⟨g8, 0, none⟩) (n + 1) cap8) w8 ∧ w8.ownsRow B 48 1 (.slice (some ⟨g8, 0, none⟩) (n + 1) cap8) (n + 1) (slcL fr nw n ++ [.slice (some ⟨gn, 0, none⟩) nw nw]) ∧
      w7.grownBy w8 fv.ownBlock ∧ w8.heap[bt]? = some (.cells #[.int .i64 nw, r, fv] 78 (0, 0)) := by
  obtain ⟨i1, hj, hy0, hy1, hy2⟩ := info_parts Tryd.infoPosSet
  obtain ⟨v', w8, hap, hown, hgr, -⟩ := run_append_own (P := Tryd.prog) (w7.alloc (.cells #[.slice (some ⟨gn, 0, none⟩) nw nw] 48)) B 76 76 48 i1 _ 1 24 Tryd.underlying76 hj hy0 hy1 hy2 rfl (by decide) fv n (slcL fr nw n) (hfo.alloc _) ⟨w7.heap.size, 0, none⟩ 1 1 [.slice (some ⟨gn, 0, none⟩) nw nw] rfl (fun j u hj => by
      match j, hj with
      | 0, hj => simp at hj; subst hj; simp [Addr.add]) (by intro u hu; simp at hu; subst hu; rfl) (by unfold maxLen; omega) (by omega) (by simp; omega)
  obtain ⟨g8, cap8, rfl⟩ := succ_formP hown
  have hgr' : w7.grownBy w8 fv.ownBlock := ⟨hgr.os, hgr.tape, hgr.output, Nat.le_trans (by simp) hgr.size, fun k hk hne => by rw [hgr.block k (by simp; omega) hne, Below.heap_alloc _ _ _ hk]⟩
  refine ⟨g8, cap8, w8, hap, hown, hgr', (hgr'.block bt (Array.getElem?_eq_some_iff.1 hbx).1 (fun e => ?_)).trans hbx⟩
  obtain ⟨-, cur, e3⟩ := own_type hfo e.symm
  rw [hbx] at e3
  exact absurd (cells_type e3) (by decide)

theorem Touch.drew {S : Nat → Prop} {w W : World} (h : Touch S w W) : Touch S w W.drew := ⟨h.os, h.tape, h.output, h.size, h.same⟩
/-- Behind position's two appends. -/
theorem pos_done {B n nw bt mg ga gl g5 cap5 g8 cap8 : Nat} {sv fv : Value} {mk : Nat → Nat} {f : Nat → Nat → Bool} {fr : Nat → Nat} {F : Nat → Nat → Nat} {g : Nat → Bool} {w w4 w5 W6 w7 w8 : World} (h : Trk B w n nw bt sv fv mk f fr F) (hn : n < 64 * nw) (na : w.heap.size ≤ ga) (nl : w.heap.size ≤ gl)
    (H1 : Trk B w4 n nw bt sv fv mk f fr F ∧ (∀ (k : Nat) (cs : Array Value) (t : TypeId), w4.heap[k]? = some (.cells cs t (0, 0)) → t ≠ 83 → t ≠ 78 → W6.heap[k]? = some (.cells cs t (0, 0))) ∧ W6.ownsRow B 83 1 (.slice (some ⟨g5, 0, none⟩) (n + 1) cap5) (n + 1) (ptrL mk n ++ [.pointer (some ⟨mg, 0, none⟩)]) ∧ Below w.heap.size w w4 ∧ w4.grownBy w5 sv.ownBlock ∧ w5.grownBy W6 (some bt))
    (H2 : W6.heap[bt]? = some (.cells #[.int .i64 nw, .slice (some ⟨g5, 0, none⟩) (n + 1) cap5, fv] 78 (0, 0)) ∧ w4.heap[mg]? = some (.cells (marksArr g) 140 (0, 0)) ∧ FrAt w4 nw ga gl (addT zeroT n) (addT zeroT n) ∧ (∀ k, sv.ownBlock = some k → B ≤ k ∧ ∃ cur, w4.heap[k]? = some (.cells cur 83 (0, 0))))
    (H8 : w8.ownsRow B 48 1 (.slice (some ⟨g8, 0, none⟩) (n + 1) cap8) (n + 1) (slcL fr nw n ++ [.slice (some ⟨W6.heap.size, 0, none⟩) nw nw]) ∧ w7.grownBy w8 fv.ownBlock ∧ W6.drew.grownBy w7 none ∧ PosAt w7 nw W6.heap.size zeroT ∧ w8.heap[bt]? = some (.cells #[.int .i64 nw, .slice (some ⟨g5, 0, none⟩) (n + 1) cap5, fv] 78 (0, 0)) ∧ w7.ownsRow B 48 1 fv n (slcL fr nw n)) :
    WrD B w n nw bt mk f fr F (w8.setCell ⟨bt, 2, none⟩ (.slice (some ⟨g8, 0, none⟩) (n + 1) cap8)) (n + 1) ga gl false (In (.set g)) (.slice (some ⟨g5, 0, none⟩) (n + 1) cap5) (.slice (some ⟨g8, 0, none⟩) (n + 1) cap8) (fun p => if p = n then mg else mk p) (fun p => if p = n then g else f p) (fun p => if p = n then W6.heap.size else fr p) (fun p => if p = n then zeroT else F p) (addT zeroT n) (addT zeroT n) ∧ Kp B w4 (w8.setCell ⟨bt, 2, none⟩ (.slice (some ⟨g8, 0, none⟩) (n + 1) cap8)) := by
  obtain ⟨h4, hk6, so6, hB4, hgr5, hg6⟩ := H1
  obtain ⟨b6, m4, hF4, hown0⟩ := H2
  obtain ⟨hown8, hgr8, hg7, hp7, b8, fo7⟩ := H8
  have hbt : bt < w.heap.size := (Array.getElem?_eq_some_iff.1 h.box).1
  have hbb := h.bb
  have hs4 := hB4.size
  have s46 : w4.heap.size ≤ W6.heap.size := Nat.le_trans hgr5.size hg6.size
  have hg9 := grown_put w8 bt 2 (.slice (some ⟨g8, 0, none⟩) (n + 1) cap8)
  have b9 := heap_setCell_same w8 bt 2 _ _ (.slice (some ⟨g8, 0, none⟩) (n + 1) cap8) b8
  generalize w8.setCell ⟨bt, 2, none⟩ (.slice (some ⟨g8, 0, none⟩) (n + 1) cap8) = W9 at *
  have ht : Touch (fun k => k = bt ∨ sv.ownBlock = some k ∨ fv.ownBlock = some k) w4 W9 :=
    ((((((Touch.refl _ w4).grown hgr5 (fun k e => .inl (.inr (.inl e)))).grown hg6 (fun k e => .inl (.inl (by cases e; rfl)))).drew).grown hg7 (fun k e => by cases e)).grown hgr8 (fun k e => .inl (.inr (.inr e)))).grown hg9 (fun k e => .inl (.inl (by cases e; rfl)))
  have hkp : Kp B w4 W9 := Kp.of_touch ht (by omega) (fun k hk e => by
    rcases e with e | e | e
    · subst e; exact ⟨hbb, _, _, h4.box, .inl rfl⟩
    · obtain ⟨q1, cur, q2⟩ := hown0 k e; exact ⟨q1, _, _, q2, .inr (.inl rfl)⟩
    · obtain ⟨q1, cur, q2⟩ := own_type h4.fo e; exact ⟨q1, _, _, q2, .inr (.inr rfl)⟩)
  have k79 : ∀ (k : Nat) (cs : Array Value) (t : TypeId), w7.heap[k]? = some (.cells cs t (0, 0)) → t ≠ 48 → t ≠ 78 → W9.heap[k]? = some (.cells cs t (0, 0)) := fun k cs t e h1 h2 => by
    have e8 := (hgr8.block k (Array.getElem?_eq_some_iff.1 e).1 (fun e2 => by obtain ⟨-, cur, e3⟩ := own_type fo7 e2.symm; rw [e] at e3; exact h1 (cells_type e3))).trans e
    exact (hg9.block k (Array.getElem?_eq_some_iff.1 e8).1 (fun e2 => by cases e2; rw [b8] at e8; exact h2 (cells_type e8).symm)).trans e8
  have hfl : ∀ p, p < n → fr p < w.heap.size := fun p hp => (h.fol.rows p hp).glt
  have lga := hF4.fi.glt
  have lgl := hF4.la.glt
  have hif : ∀ {α : Type} (x : α) (y : Nat → α) (p : Nat), p < n → (if p = n then x else y p) = y p := fun x y p hp => if_neg (by omega)
  refine ⟨⟨⟨b9, ?_, ?_, ⟨fun p hp => ?_, fun p q hp hq e => ?_⟩, fun p hp => ?_, by omega, h.nwl, h4.bru.keep (hkp.low 0 h.b0), h.bb, h.b0⟩, hkp.frag hF4, by omega, na, nl, fun p hp => ?_, fun p hp => ?_, fun p hp => ⟨if_neg (by omega), if_neg (by omega), if_neg (by omega), if_neg (by omega)⟩, fun p h1 h2 => ?_, ?_, (Kp.of_below (by omega) hB4).trans hkp, by omega⟩, hkp⟩
  · rw [ptrL_succ, if_pos rfl, ptrL_congr (mk' := mk) (fun p hp => if_neg (by omega))]
    exact ownsRow_keepT so6 (fun k cs e => k79 k cs _ ((hg7.block k (Array.getElem?_eq_some_iff.1 e).1 (by simp)).trans e) (by decide) (by decide))
  · rw [slcL_succ, if_pos rfl, slcL_congr (fr' := fr) (fun p hp => if_neg (by omega))]
    exact ownsRow_keepT hown8 (fun k cs e => (hg9.block k (Array.getElem?_eq_some_iff.1 e).1 (fun e2 => by cases e2; rw [b8] at e; exact absurd (cells_type e) (by decide))).trans e)
  · by_cases e : p = n
    · rw [if_pos e, if_pos e]; exact ⟨k79 _ _ _ hp7.row (by decide) (by decide), hp7.lt⟩
    · rw [if_neg e, if_neg e]; exact hkp.pos (h4.fol.rows p (by omega))
  · by_cases e1 : p = n <;> by_cases e2 : q = n
    · omega
    · rw [if_pos e1, if_neg e2] at e; have := hfl q (by omega); omega
    · rw [if_neg e1, if_pos e2] at e; have := hfl p (by omega); omega
    · rw [if_neg e1, if_neg e2] at e; exact h.fol.inj p q (by omega) (by omega) e
  · by_cases e : p = n
    · rw [if_pos e, if_pos e]; exact hkp.typ _ _ _ m4 (by decide) (by decide) (by decide)
    · rw [if_neg e, if_neg e]; exact hkp.typ _ _ _ (h4.mks p (by omega)) (by decide) (by decide) (by decide)
  · by_cases e : p = n
    · rw [if_pos e]; omega
    · rw [if_neg e]; have := hfl p (by omega); omega
  · by_cases e : p = n
    · rw [if_pos e]; omega
    · rw [if_neg e]; have := hfl p (by omega); omega
  · rw [if_pos (by omega)]; omega
  · have hin : ∀ p, (p = n) ↔ inT (addT zeroT n) p := fun p => by unfold inT; rw [addT_bit, zeroT_bit]; simp
    refine (good_one (tk := tkOf (fun p => if p = n then g else f p)) (fol := folOf (fun p => if p = n then zeroT else F p)) (f := g) (n := n) (fun c => ?_) (fun q => ?_)).dom (fun p => by omega) (by simp) hin hin
    · show (if n = n then g else f n) c.toNat = true ↔ _; rw [if_pos rfl]
    · show ¬bitAt (if n = n then zeroT else F n) q = true; rw [if_pos rfl, zeroT_bit]; simp

set_option maxRecDepth 100000 in
set_option maxHeartbeats 4000000 in
theorem position_ok (B n nw bt mg : Nat) (sv fv : Value) (mk : Nat → Nat) (f : Nat → Nat → Bool) (fr : Nat → Nat) (F : Nat → Nat → Nat) (g : Nat → Bool) (w : World) (h : Trk B w n nw bt sv fv mk f fr F) (hm : w.heap[mg]? = some (.cells (marksArr g) 140 (0, 0))) (hn : n < 64 * nw) :
    Calls Tryd.prog 37 #[.pointer (some ⟨bt, 0, none⟩), .pointer (some ⟨mg, 0, none⟩)] w fun e W => WrR B w n nw bt mk f fr F 1 (In (.set g)) e W := by
  obtain ⟨i0, hi, hz0, hz1, hz2⟩ := info_parts Tryd.infoPtrMarks
  obtain ⟨i1, hj, hy0, hy1, hy2⟩ := info_parts Tryd.infoPosSet
  have hnw := h.nwl
  have hbt : bt < w.heap.size := (Array.getElem?_eq_some_iff.1 h.box).1
  obtain ⟨ao, ca, rfl⟩ := slice_formP h.so
  have hb0 : Below w.heap.size w (w.alloc (.cells #[.bool false, .slice none 0 0, .slice none 0 0] 50)) := (Below.refl _ _).alloc (Nat.le_refl _) _
  have x0 : (w.alloc (.cells #[.bool false, .slice none 0 0, .slice none 0 0] 50)).heap[w.heap.size]? = some (.cells #[.bool false, .slice none 0 0, .slice none 0 0] 50 (0, 0)) := heap_alloc_new _ _
  have hba := bare_ok nw bt false (.slice ao n ca) fv _ ((hb0.block bt hbt).trans h.box) hnw
  go_enter Tryd.func37, Tryd.ntmps37
  go_wp2_with fail
  refine hba.mono ?_
  rintro e w1 ⟨ga, gl, rfl, na, nl, hfr, hb1⟩
  rw [World.size_alloc] at na nl
  have x1 := (hb1.block _ (by simp)).trans x0
  have hB1 : Below w.heap.size w w1 := hb0.trans (hb1.mono (by simp))
  obtain ⟨W2, hW2⟩ : ∃ W2, W2 = (w1.alloc (.cells #[.bool false, .slice (some ⟨ga, 0, none⟩) nw nw, .slice (some ⟨gl, 0, none⟩) nw nw] 50)) := ⟨_, rfl⟩
  have x5 : W2.heap[w1.heap.size]? = some (.cells #[.bool false, .slice (some ⟨ga, 0, none⟩) nw nw, .slice (some ⟨gl, 0, none⟩) nw nw] 50 (0, 0)) := by rw [hW2]; exact heap_alloc_new _ _
  have hb2 : Below w1.heap.size w1 W2 := by rw [hW2]; exact (Below.refl _ _).alloc (Nat.le_refl _) _
  have y2 := hfr.below hb2
  have x4 : W2.heap[w.heap.size]? = _ := (hb2.block _ (Array.getElem?_eq_some_iff.1 x1).1).trans x1
  have lga := hfr.fi.glt
  have lgl := hfr.la.glt
  have hne := hfr.ne
  have hbx : W2.heap[bt]? = _ := (hb2.block bt (Nat.lt_of_lt_of_le hbt hB1.size)).trans ((hB1.block bt hbt).trans h.box)
  have hadd := addP_ok nw ga nw zeroT n W2.drew y2.fi.row hn hnw (fun _ => by simp [zeroT])
  have c1 : W2.cell? ⟨w1.heap.size, 1, none⟩ = some (.slice (some ⟨ga, 0, none⟩) nw nw) := (row_threeF x5).2.1
  have c2 : W2.cell? ⟨bt, 1, none⟩ = some (.slice ao n ca) := (row_threeF hbx).2.1
  have hs12 : w1.heap.size < W2.heap.size := (Array.getElem?_eq_some_iff.1 x5).1
  have hs01 := hB1.size
  go_wp2
  rw [← hW2]
  clear hW2
  go_region_held3 (fun w' => w'.cell? ⟨w1.heap.size, 1, none⟩ = some (.slice (some ⟨ga, 0, none⟩) nw nw) ∧ w'.cell? ⟨bt, 1, none⟩ = some (.slice ao n ca)) ((first | exact ⟨c1, c2⟩ | exact ⟨(row_threeF z5).2.1, (row_threeF zb).2.1⟩ | go_keep)) ((go_at_call 55; refine hadd.mono ?_; rintro e w3 ⟨rfl, hr3, hg3⟩; have z5 := (hg3.block (w1.heap.size) (by show _ < W2.heap.size; omega) (by simp; omega)).trans x5; have zb := (hg3.block bt (by show _ < W2.heap.size; omega) (by simp; omega)).trans hbx))
  have z4 : w3.heap[w.heap.size]? = _ := (hg3.block (w.heap.size) (by show _ < W2.heap.size; omega) (by simp; omega)).trans x4
  have zl : PosAt w3 nw gl zeroT := ⟨(hg3.block gl (by show _ < W2.heap.size; omega) (by simp; omega)).trans y2.la.row, y2.la.lt⟩
  have hs23 : W2.heap.size ≤ w3.heap.size := hg3.size
  have hadd2 := addP_ok nw gl nw zeroT n w3.drew zl.row hn hnw (fun _ => by simp [zeroT])
  have d1 : w3.cell? ⟨w1.heap.size, 2, none⟩ = some (.slice (some ⟨gl, 0, none⟩) nw nw) := (row_threeF z5).2.2.1
  have d2 : w3.cell? ⟨bt, 1, none⟩ = some (.slice ao n ca) := (row_threeF zb).2.1
  clear c1 c2 hadd hba x0
  go_wp2
  go_region_held3 (fun w' => w'.cell? ⟨w1.heap.size, 2, none⟩ = some (.slice (some ⟨gl, 0, none⟩) nw nw) ∧ w'.cell? ⟨bt, 1, none⟩ = some (.slice ao n ca)) ((first | exact ⟨d1, d2⟩ | exact ⟨(row_threeF y5).2.2.1, (row_threeF yb).2.1⟩ | go_keep)) ((go_at_call 55; refine hadd2.mono ?_; rintro e w4 ⟨rfl, hr4, hg4⟩; have y5 := (hg4.block (w1.heap.size) (by show _ < w3.heap.size; omega) (by simp; omega)).trans z5; have yb := (hg4.block bt (by show _ < w3.heap.size; omega) (by simp; omega)).trans zb))
  have y4 : w4.heap[w.heap.size]? = _ := (hg4.block (w.heap.size) (by show _ < w3.heap.size; omega) (by simp; omega)).trans z4
  have hs34 : w3.heap.size ≤ w4.heap.size := hg4.size
  have hra : w4.heap[ga]? = _ := (hg4.block ga (by show _ < w3.heap.size; omega) (by simp; omega)).trans hr3
  have hT0 : ∀ i, addT zeroT n i < 18446744073709551616 := addT_lt zeroT (fun _ => by simp [zeroT]) n
  have hF4 : FrAt w4 nw ga gl (addT zeroT n) (addT zeroT n) := ⟨⟨hra, hT0⟩, ⟨hr4, hT0⟩, hne⟩
  have hB4 : Below w.heap.size w w4 := ((hB1.trans (hb2.mono hs01)).drew.grown hg3 (by show _ ≤ W2.heap.size; omega) (fun k e => by cases e; omega)).drew.grown hg4 (by show _ ≤ w3.heap.size; omega) (fun k e => by cases e; omega)
  have h4 := h.below hB4
  have m4 := (hB4.block mg (Array.getElem?_eq_some_iff.1 hm).1).trans hm
  clear d1 d2 hadd2 hg3 hg4 z4 zl z5 zb x4 x5 x1 hbx hr3 hr4 hra y2 hb1 hb2 hB1 hb0 hfr
  have k1 := (row_threeF yb).2.1
  have hown0 : ∀ k, (Value.slice ao n ca).ownBlock = some k → B ≤ k ∧ ∃ cur, w4.heap[k]? = some (.cells cur 83 (0, 0)) := fun k hk => own_type h4.so hk
  have hkeep4 : ∀ (w5 : World), w4.grownBy w5 (Value.slice ao n ca).ownBlock → ∀ (k : Nat) (cs : Array Value) (t : TypeId), w4.heap[k]? = some (.cells cs t (0, 0)) → t ≠ 83 → w5.heap[k]? = some (.cells cs t (0, 0)) := fun w5 hg k cs t e hne => (hg.block k (Array.getElem?_eq_some_iff.1 e).1 (fun e2 => by
    obtain ⟨-, cur, e3⟩ := hown0 k e2.symm
    rw [e] at e3
    exact hne (cells_type e3))).trans e
  go_wp2_with (refine wpList_append_any w4 _ rfl rfl (.tmp 28) (.tmp 30) 75 rfl B 83 i0 (.pointer none) 8 Tryd.underlying75 hi hz0 hz1 hz2 rfl (.slice ao n ca) n (ptrL mk n) (.pointer (some ⟨mg, 0, none⟩)) rfl h4.so rfl rfl (by omega) (by omega) (by have := h.bb; omega) ?_; intro g5 cap5 w5 hown5 hgr5 hat5; have v5 := hkeep4 w5 hgr5 _ _ _ yb (by decide); obtain ⟨-, q1, -, -, fq1, -⟩ := row_threeF v5)
  clear q1 fq1 k1
  have v6 := heap_setCell_same w5 bt 1 _ _ (.slice (some ⟨g5, 0, none⟩) (n + 1) cap5) v5
  have hg6 := grown_put w5 bt 1 (.slice (some ⟨g5, 0, none⟩) (n + 1) cap5)
  generalize hW6 : w5.setCell ⟨bt, 1, none⟩ (.slice (some ⟨g5, 0, none⟩) (n + 1) cap5) = W6 at *
  clear hW6
  have b6 : W6.heap[bt]? = some (.cells #[.int .i64 nw, .slice (some ⟨g5, 0, none⟩) (n + 1) cap5, fv] 78 (0, 0)) := v6
  have hkeep6 : ∀ (k : Nat) (cs : Array Value) (t : TypeId), w4.heap[k]? = some (.cells cs t (0, 0)) → t ≠ 83 → t ≠ 78 → W6.heap[k]? = some (.cells cs t (0, 0)) := fun k cs t e h1 h2 => by
    have e5 := hkeep4 w5 hgr5 k cs t e h1
    exact (hg6.block k (Array.getElem?_eq_some_iff.1 e5).1 (fun e2 => by cases e2; rw [v5] at e5; exact h2 (cells_type e5).symm)).trans e5
  have so6 : W6.ownsRow B 83 1 (.slice (some ⟨g5, 0, none⟩) (n + 1) cap5) (n + 1) (ptrL mk n ++ [.pointer (some ⟨mg, 0, none⟩)]) := ownsRow_keepT hown5 (fun k cs e => (hg6.block k (Array.getElem?_eq_some_iff.1 e).1 (fun e2 => by cases e2; rw [v5] at e; exact absurd (cells_type e) (by decide))).trans e)
  have fo6 : W6.ownsRow B 48 1 fv n (slcL fr nw n) := ownsRow_keepT h4.fo (fun k cs e => hkeep6 k cs _ e (by decide) (by decide))
  obtain ⟨fo, cf, rfl⟩ := slice_formP fo6
  have s46 : w4.heap.size ≤ W6.heap.size := Nat.le_trans hgr5.size hg6.size
  have hno := none_ok nw bt (.slice (some ⟨g5, 0, none⟩) (n + 1) cap5) (.slice fo n cf) W6.drew b6 hnw
  have bk6 := (row_threeF b6).2.2.1
  have hB0 := h.bb
  have hB6 : B ≤ W6.drew.heap.size := by show B ≤ W6.heap.size; omega
  have hn6 : n ≤ 64000 := by omega
  have hrest : ∀ (w7 : World), (PosAt w7 nw W6.heap.size zeroT ∧ W6.drew.grownBy w7 none) → ∃ g8 cap8 w8, w7.cell? ⟨bt, 2, none⟩ = some (.slice fo n cf) ∧ (w7.alloc (.cells #[.slice (some ⟨W6.heap.size, 0, none⟩) nw nw] 48)).cell? ⟨bt, 2, none⟩ = some (.slice fo n cf) ∧ (appP #[76, 76] 76 #[.slice fo n cf, .slice (some ⟨w7.heap.size, 0, none⟩) 1 1]).run Tryd.prog (w7.alloc (.cells #[.slice (some ⟨W6.heap.size, 0, none⟩) nw nw] 48)) = .ok (.slice (some ⟨g8, 0, none⟩) (n + 1) cap8) w8 ∧ w8.cell? ⟨bt, 2, none⟩ = some (.slice fo n cf) ∧ w8.frozen? ⟨bt, 2, none⟩ = false ∧
      Hid (w8.ownsRow B 48 1 (.slice (some ⟨g8, 0, none⟩) (n + 1) cap8) (n + 1) (slcL fr nw n ++ [.slice (some ⟨W6.heap.size, 0, none⟩) nw nw]) ∧ w7.grownBy w8 (Value.slice fo n cf).ownBlock ∧ W6.drew.grownBy w7 none ∧ PosAt w7 nw W6.heap.size zeroT ∧ w8.heap[bt]? = some (.cells #[.int .i64 nw, .slice (some ⟨g5, 0, none⟩) (n + 1) cap5, .slice fo n cf] 78 (0, 0)) ∧ w7.ownsRow B 48 1 (.slice fo n cf) n (slcL fr nw n)) := fun w7 ⟨hp7, hg7⟩ => by
    have b7 := (hg7.block bt (Array.getElem?_eq_some_iff.1 b6).1 (by simp)).trans b6
    have fo7 := ownsRow_keepT fo6 (fun k cs e => (hg7.block k (Array.getElem?_eq_some_iff.1 e).1 (by simp)).trans e)
    obtain ⟨g8, cap8, w8, hap, hown8, hgr8, b8⟩ := app_follow B n nw bt W6.heap.size (.slice fo n cf) _ fr w7 fo7 b7 (Nat.le_trans hB6 hg7.size) hn6
    exact ⟨g8, cap8, w8, (row_threeF b7).2.2.1, (row_threeF (row_alloc b7)).2.2.1, hap, (row_threeF b8).2.2.1, (row_threeF b8).2.2.2.2.2, hown8, hgr8, hg7, hp7, b8, fo7⟩
  have hall : Hid (Trk B w4 n nw bt (.slice ao n ca) (.slice fo n cf) mk f fr F ∧ (∀ (k : Nat) (cs : Array Value) (t : TypeId), w4.heap[k]? = some (.cells cs t (0, 0)) → t ≠ 83 → t ≠ 78 → W6.heap[k]? = some (.cells cs t (0, 0))) ∧ W6.ownsRow B 83 1 (.slice (some ⟨g5, 0, none⟩) (n + 1) cap5) (n + 1) (ptrL mk n ++ [.pointer (some ⟨mg, 0, none⟩)]) ∧ Below w.heap.size w w4 ∧ w4.grownBy w5 (Value.slice ao n ca).ownBlock ∧ w5.grownBy W6 (some bt)) := ⟨h4, hkeep6, so6, hB4, hgr5, hg6⟩
  have hmore : Hid (W6.heap[bt]? = some (.cells #[.int .i64 nw, .slice (some ⟨g5, 0, none⟩) (n + 1) cap5, .slice fo n cf] 78 (0, 0)) ∧ w4.heap[mg]? = some (.cells (marksArr g) 140 (0, 0)) ∧ FrAt w4 nw ga gl (addT zeroT n) (addT zeroT n) ∧ (∀ k, (Value.slice ao n ca).ownBlock = some k → B ≤ k ∧ ∃ cur, w4.heap[k]? = some (.cells cur 83 (0, 0)))) := ⟨b6, m4, hF4, hown0⟩
  have hfrag : Hid (w4.heap[w.heap.size]? = some (.cells #[.bool false, .slice none 0 0, .slice none 0 0] 50 (0, 0)) ∧ w4.heap[w1.heap.size]? = some (.cells #[.bool false, .slice (some ⟨ga, 0, none⟩) nw nw, .slice (some ⟨gl, 0, none⟩) nw nw] 50 (0, 0))) := ⟨y4, y5⟩
  clear h4 hkeep6 so6 hB4 hgr5 hg6 b6 m4 hF4 hown0 y4 y5 hkeep4 v6 v5 yb fo6 hown5 hat5 hi hz0 hz1 hz2 hj hy0 hy1 hy2 hT0
  go_region_law ((first | (refine step_go (by rfl) 35 #[.tmp 39] #[44] (by rfl) #[.pointer (some ⟨bt, 0, none⟩)] (by simp [Act.eval, Act.put]) (.slice (some ⟨W6.heap.size, 0, none⟩) nw nw) (fun w' => PosAt w' nw W6.heap.size zeroT ∧ W6.drew.grownBy w' none) (enterNone _ _) hno ?_; intro w7 hp7; obtain ⟨g8, cap8, w8, bk7, bk7', hap, bk8, fk8, H8⟩ := hrest w7 hp7; clear hp7) | (refine step_appP (by rfl) (.tmp 38) (.tmp 41) 76 (by rfl) _ _ (by rfl) (by rfl) _ _ hap ?_)))
  all_goals
    obtain ⟨D9, K9⟩ := pos_done h hn (by omega) (by omega) hall.out hmore.out H8.out
    have u4 := K9.typ _ _ _ hfrag.out.1 (by decide) (by decide) (by decide)
    have u5 := K9.typ _ _ _ hfrag.out.2 (by decide) (by decide) (by decide)
    generalize w8.setCell ⟨bt, 2, none⟩ (.slice (some ⟨g8, 0, none⟩) (n + 1) cap8) = W9 at *
    obtain ⟨a0, a1, a2, -, -, -⟩ := row_threeF u5
    obtain ⟨k0, k1, k2, f0, f1, f2⟩ := row_threeF u4
    have hpos := bru_pos h.bru
    clear hall hmore hfrag H8 K9 h hm hap bk7 bk7' bk8 fk8 hrest hno bk6
    go_wp2
    refine bodyPost_ret (v := .agg #[.bool false, .slice (some ⟨ga, 0, none⟩) nw nw, .slice (some ⟨gl, 0, none⟩) nw nw]) (by simp [results, Tryd.results37, go_sem, k0, k1, k2]) rfl (D9.ret u4 (Nat.le_refl _) hpos (Nat.le_refl _))
end Go.Proofs.YthgaeaihfbiolaaDoor
