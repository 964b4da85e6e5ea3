import Derived.Test.YthgaeaihfbiolaaDoorAll
namespace Go.Proofs.YthgaeaihfbiolaaDoor
open Go.RowKit

def seenArr (f : Nat → Bool) : Array Value := ((List.range 501).map fun c => Value.bool (f c)).toArray
theorem seenArr_size (f : Nat → Bool) : (seenArr f).size = 501 := by simp [seenArr]
theorem seenArr_get (f : Nat → Bool) (i : Nat) (h : i < 501) : (seenArr f)[i]? = some (.bool (f i)) := by simp [seenArr, h]
theorem seenArr_ext {f g : Nat → Bool} (h : ∀ c, c < 501 → f c = g c) : seenArr f = seenArr g := by
  unfold seenArr
  rw [List.map_congr_left fun c hc => by rw [h c (by simpa using hc)]]
theorem seenArr_set (f : Nat → Bool) (i : Nat) : (seenArr f).setIfInBounds i (.bool true) = seenArr (fun c => f c || c == i) := by
  apply Array.ext_getElem?
  intro j
  rw [Array.getElem?_setIfInBounds, seenArr_size]
  by_cases hj : j < 501
  · rw [seenArr_get _ _ hj, seenArr_get _ _ hj]
    by_cases e : i = j
    · subst e; simp [hj]
    · have e' : (j == i) = false := by simp; omega
      simp [e, e']
  · have h1 : ∀ g, (seenArr g)[j]? = none := fun g => Array.getElem?_eq_none (by rw [seenArr_size]; omega)
    rw [h1, h1]
    split <;> simp_all
def inDone (done : List Int) : Nat → Bool := fun c => decide ((c : Int) ∈ done)
theorem seenArr_cons (done : List Int) (q : Nat) : seenArr (fun c => inDone done c || c == q) = seenArr (inDone ((q : Int) :: done)) := seenArr_ext fun c _ => by
  unfold inDone
  by_cases e : c = q
  · subst e; simp
  · have e' : (c == q) = false := beq_eq_false_iff_ne.2 e
    have e2 : ¬ (c : Int) = (q : Int) := by omega
    simp [e', e2]

theorem Tryd.zeroSeen : (Tryd.prog.info? 113).map (fun i => (i.zero, i.size)) = some (some (.agg (seenArr (inDone []))), 501) := by kernel_rfl

def grp : List NodeD → List Int
  | [] => []
  | n :: ns => if n.kind = 5 then n.group :: grp ns else grp ns
def allGrp : List BranchD → List Int
  | [] => []
  | b :: bs => grp b.nodes ++ allGrp bs
def grpOKs (G : Int) : List Int → List Int → Bool
  | done, [] => ((done.length : Int) == G)
  | done, g :: gs => if g < 1 ∨ G < g ∨ g ∈ done then false else grpOKs G (g :: done) gs
theorem grp_drop (ns : List NodeD) (i : Nat) (hi : i < ns.length) (nd : NodeD) (h : ns.getD i .zero = nd) : grp (ns.drop i) = if nd.kind = 5 then nd.group :: grp (ns.drop (i + 1)) else grp (ns.drop (i + 1)) := by
  rw [List.drop_eq_getElem_cons hi]
  have : ns[i] = nd := by rw [← h]; simp [List.getD, hi]
  rw [this, grp]
theorem allGrp_drop (bs : List BranchD) (i : Nat) (hi : i < bs.length) (bd : BranchD) (h : bs.getD i .zero = bd) : allGrp (bs.drop i) = grp (bd.nodes.drop 0) ++ allGrp (bs.drop (i + 1)) := by
  rw [List.drop_eq_getElem_cons hi]
  have : bs[i] = bd := by rw [← h]; simp [List.getD, hi]
  rw [this, allGrp]
  rfl

set_option maxRecDepth 100000 in
set_option maxHeartbeats 2000000 in
theorem groupsOK_ok {lo : Nat} (G : Int) (v : Value) (bs : List BranchD) (w : World) (hs : BranchesAt lo w v bs) (hsm : Small bs) (hG0 : 0 ≤ G) (hG1 : G ≤ 500) :
    Calls Tryd.prog 32 #[.agg #[v, .int .i64 G]] w fun e w' => e = .returned (.bool (grpOKs G [] (allGrp bs))) ∧ Below w.heap.size w w' := by
  obtain ⟨ao, cap, rfl, hm, hc⟩ := hs
  have hn := hsm.1
  have hzv := (zero_of_info Tryd.zeroSeen).1
  go_enter Tryd.func32, Tryd.ntmps32
  go_wp2
  go_loopw [4, 12] (fun f i wr => ∃ (k : Nat) (done : List Int), k ≤ bs.length ∧ i = .int .i64 k ∧ f = .int .i64 done.length ∧ done.length ≤ k * 1048576 ∧ Below w.heap.size w wr ∧ wr.cell? ⟨w.heap.size, 1, none⟩ = some (.int .i64 G) ∧ Hid (wr.heap[w.heap.size + 1]? = some (.cells (seenArr (inDone done)) 113 (0, 0))) ∧ w.heap.size + 1 < wr.heap.size ∧ Hid (grpOKs G [] (allGrp bs) = grpOKs G done (allGrp (bs.drop k))))
    (fun _ i _ => bs.length - (intOf i).toNat)
  case atStart => exact ⟨0, [], Nat.zero_le _, rfl, rfl, by simp, ((Below.refl _ _).alloc (Nat.le_refl _) _).alloc (by simp) _, by simp, heap_alloc2_new _ _ _, by simp, rfl⟩
  case round =>
    obtain ⟨k, done, hk, rfl, rfl, hdl, hb, hbox, Hseen, hsz, HS⟩ := hrel
    by_cases hlt : k < bs.length
    · obtain ⟨b, o, nv, bd, rfl, Hn, hbl, k0, k1, k2, hnv⟩ := hc.elem (Below.refl _ _) hlt
      have c0 := (hb.cell (p := ⟨b, o + k * 3, none⟩) hbl).trans k0
      have c1 := (hb.cell (p := ⟨b, o + k * 3 + 1, none⟩) hbl).trans k1
      have c2 := (hb.cell (p := ⟨b, o + k * 3 + 2, none⟩) hbl).trans k2
      clear k0 k1 k2
      have hnl : bd.nodes.length ≤ 1048576 := by have := (hsm.2 k hlt).1; rw [Hn.out] at this; exact this
      obtain ⟨nao, ncp, rfl, hnm, hnc⟩ := hnv
      have HA : Hid _ := allGrp_drop bs k hlt bd Hn.out
      generalize htl : allGrp (bs.drop (k + 1)) = tl at *
      have Htl : Hid _ := htl
      clear htl
      have hba : Below w.heap.size w (wr.alloc (.cells #[.bool bd.bol, .bool bd.eol, .slice nao bd.nodes.length ncp] 37)) := hb.alloc hb.size _
      have hbox2 : (wr.alloc (.cells #[.bool bd.bol, .bool bd.eol, .slice nao bd.nodes.length ncp] 37)).cell? ⟨w.heap.size, 1, none⟩ = some (.int .i64 G) := (World.cell?_of_block (Below.heap_alloc _ _ _ (by simp; omega))).trans hbox
      have Hseen2 : Hid _ := row_alloc (ob := .cells #[.bool bd.bol, .bool bd.eol, .slice nao bd.nodes.length ncp] 37) Hseen.out
      have hWs : w.heap.size + 1 < (wr.alloc (.cells #[.bool bd.bol, .bool bd.eol, .slice nao bd.nodes.length ncp] 37)).heap.size := by simp; omega
      go_wp2
      generalize (wr.alloc (.cells #[.bool bd.bol, .bool bd.eol, .slice nao bd.nodes.length ncp] 37)) = W at *
      go_loopw [4, 19] (fun f i wq => ∃ (j : Nat) (dn : List Int), j ≤ bd.nodes.length ∧ i = .int .i64 j ∧ f = .int .i64 dn.length ∧ dn.length ≤ k * 1048576 + j ∧ Below w.heap.size w wq ∧ wq.cell? ⟨w.heap.size, 1, none⟩ = some (.int .i64 G) ∧ Hid (wq.heap[w.heap.size + 1]? = some (.cells (seenArr (inDone dn)) 113 (0, 0))) ∧ w.heap.size + 1 < wq.heap.size ∧ Hid (grpOKs G [] (allGrp bs) = grpOKs G dn (grp (bd.nodes.drop j) ++ tl)))
        (fun _ i _ => bd.nodes.length - (intOf i).toNat)
      case atStart => exact ⟨0, done, Nat.zero_le _, rfl, rfl, Nat.le_trans hdl (Nat.le_add_right _ _), hba, hbox2, Hseen2, hWs, by show _ = _; rw [HS.out, HA.out]⟩
      case round =>
        obtain ⟨j, dn, hj, rfl, rfl, hdl2, hbq, hboxq, Hsq, hszq, HQ⟩ := hrel
        by_cases hlt2 : j < bd.nodes.length
        · obtain ⟨b2, o2, sv, nd, rfl, Hn2, hbl2, d0, d1, d2, d3, d4, hsv⟩ := hnc.elem hbq hlt2
          have HG : Hid _ := grp_drop bd.nodes j hlt2 nd Hn2.out
          obtain ⟨kd, rs, mn, mx, gr⟩ := nd
          simp only at d0 d2 d3 d4 hsv HG
          obtain ⟨sao, scp, rfl, hsm2, hsc⟩ := hsv
          have hqz := hbq.size
          have hbqa : Below w.heap.size w (wr.alloc (.cells #[.int .i64 kd, .slice sao rs.length scp, .int .i64 mn, .int .i64 mx, .int .i64 gr] 106)) := hbq.alloc hqz _
          have Hsqa : Hid _ := row_alloc (ob := .cells #[.int .i64 kd, .slice sao rs.length scp, .int .i64 mn, .int .i64 mx, .int .i64 gr] 106) Hsq.out
          have hboxa : (wr.alloc (.cells #[.int .i64 kd, .slice sao rs.length scp, .int .i64 mn, .int .i64 mx, .int .i64 gr] 106)).cell? ⟨w.heap.size, 1, none⟩ = some (.int .i64 G) := (World.cell?_of_block (Below.heap_alloc _ _ _ (by simp; omega))).trans hboxq
          by_cases h5 : kd = 5
          · subst h5
            have HG2 : Hid (grpOKs G [] (allGrp bs) = if gr < 1 ∨ G < gr ∨ gr ∈ dn then false else grpOKs G (gr :: dn) (grp (bd.nodes.drop (j + 1)) ++ tl)) := by show _ = _; rw [HQ.out, HG.out, if_pos rfl]; rfl
            by_cases g1 : gr < 1
            · go_wp2
              go_ret
              exact ⟨ret_bool (by rw [HG2.out, if_pos (.inl g1)]), hbqa⟩
            by_cases g2 : G < gr
            · go_wp2
              go_ret
              exact ⟨ret_bool (by rw [HG2.out, if_pos (.inr (.inl g2))]), hbqa⟩
            obtain ⟨q, rfl⟩ := Int.eq_ofNat_of_zero_le (show 0 ≤ gr by omega)
            have hq : q < 501 := by omega
            have s0 : wr.cell? ⟨w.heap.size + 1, q, none⟩ = some (.bool (inDone dn q)) := by rw [cell_of_row _ _ _ _ _ _ Hsq.out, seenArr_get _ _ hq]
            have fz0 : wr.frozen? ⟨w.heap.size + 1, q, none⟩ = false := frozen_of_row _ _ _ _ _ Hsq.out
            by_cases g3 : inDone dn q = true
            · go_wp2
              go_ret
              exact ⟨ret_bool (by rw [HG2.out, if_pos (.inr (.inr (by simpa [inDone] using g3)))]), hbqa⟩
            have g3' : inDone dn q = false := by simpa using g3
            clear g3
            go_wp2
            go_roundw
            case rel => exact ⟨j + 1, (q : Int) :: dn, by omega, by go_num, by simp, by simp; omega, (hbq.setCell (by simp) _).alloc (by simpa [World.setCell] using hqz) _, (World.cell?_of_block (Below.heap_alloc _ _ _ (by simp [World.setCell]; omega))).trans ((World.cell?_of_block (heap_setCell_other _ _ _ _ (by simp))).trans hboxq), row_alloc (by rw [heap_setCell_same _ _ _ _ _ _ Hsq.out, seenArr_set, seenArr_cons]), by simp [World.setCell]; omega, by show _ = _; rw [HG2.out, if_neg (by rintro (h | h | h); omega; omega; simp [inDone] at g3'; exact g3' h)]⟩
            case measure => simp [intOf]; omega
          · have h5' : (kd != 5) = true := by rw [bne_iff_ne]; exact h5
            have H5 : Hid _ := h5
            clear h5
            go_wp2
            go_roundw
            case rel => exact ⟨j + 1, dn, by omega, by go_num, rfl, by omega, hbqa, hboxa, Hsqa, by simp; omega, by show _ = _; rw [HQ.out, HG.out, if_neg H5.out]⟩
            case measure => simp [intOf]; omega
        · have hjj : j = bd.nodes.length := by omega
          have hnil : bd.nodes.drop j = [] := List.drop_eq_nil_of_le (by omega)
          rw [hnil] at HQ
          have hdl3 : dn.length ≤ (k + 1) * 1048576 := by omega
          clear hjj hnil
          go_wp2
          go_roundw
          case rel => exact ⟨k + 1, dn, by omega, by go_num, rfl, hdl3, hbq, hboxq, Hsq, hszq, by show _ = _; rw [HQ.out, Htl.out]; rfl⟩
          case measure => simp [intOf]; omega
    · have hbd : bs.drop k = [] := List.drop_eq_nil_of_le (by omega)
      go_wp2
      go_ret
      refine ⟨ret_bool ?_, hb⟩
      rw [HS.out, hbd]
      rfl
end Go.Proofs.YthgaeaihfbiolaaDoor
namespace Go.Proofs.YthgaeaihfbiolaaDoor
open Go.RowKit

def implB (G : Int) (bs : List BranchD) : Bool :=
  decide (1 ≤ bs.length ∧ bs.length ≤ 2000) && decide (0 ≤ G ∧ G ≤ 500) && decide (nodeCount bs ≤ 5000) && grpOKs G [] (allGrp bs) && match liftAll bs with
    | none => false
    | some st => decide (sumCap st ≤ 2000)

theorem ret_tuple {v : Value} {a b : Bool} (h : a = b) : Ending.returned (.tuple #[v, .bool a]) = .returned (.tuple #[v, .bool b]) := by rw [h]

set_option maxRecDepth 100000 in
set_option maxHeartbeats 2000000 in
theorem liftRule_ok {lo : Nat} (G : Int) (v : Value) (bs : List BranchD) (w : World) (hs : BranchesAt lo w v bs) (hsm : Small bs) :
    Calls Tryd.prog 14 #[.agg #[v, .int .i64 G]] w fun e w' => (∃ pv, e = .returned (.tuple #[pv, .bool (implB G bs)])) ∧ Below w.heap.size w w' := by
  have hn := hsm.1
  have hs0 := hs
  obtain ⟨ao, cap, rfl, hm, hc⟩ := hs
  have hb0 : Below w.heap.size w (w.alloc (.cells #[.slice ao bs.length cap, .int .i64 G] 29)) := (Below.refl _ _).alloc (Nat.le_refl _) _
  have Hfalse : ∀ {b : Bool}, implB G bs = b → Hid (implB G bs = b) := fun h => h
  by_cases h1 : (bs.length : Int) < 1
  · have H := Hfalse (b := false) (by simp [implB]; omega)
    clear Hfalse
    go_enter Tryd.func14, Tryd.ntmps14
    go_wp2
    go_ret2
    exact ⟨⟨_, ret_tuple H.out.symm⟩, hb0⟩
  by_cases h2 : 2000 < (bs.length : Int)
  · have H := Hfalse (b := false) (by simp [implB]; omega)
    clear Hfalse
    go_enter Tryd.func14, Tryd.ntmps14
    go_wp2
    go_ret2
    exact ⟨⟨_, ret_tuple H.out.symm⟩, hb0⟩
  by_cases h3 : G < 0
  · have H := Hfalse (b := false) (by simp [implB]; omega)
    clear Hfalse
    go_enter Tryd.func14, Tryd.ntmps14
    go_wp2
    go_ret2
    exact ⟨⟨_, ret_tuple H.out.symm⟩, hb0⟩
  by_cases h4 : 500 < G
  · have H := Hfalse (b := false) (by simp [implB]; omega)
    clear Hfalse
    go_enter Tryd.func14, Tryd.ntmps14
    go_wp2
    go_ret2
    exact ⟨⟨_, ret_tuple H.out.symm⟩, hb0⟩
  have HA : Hid (implB G bs = (decide (nodeCount bs ≤ 5000) && grpOKs G [] (allGrp bs) && match liftAll bs with
    | none => false
    | some st => decide (sumCap st ≤ 2000))) := by
    show _ = _
    unfold implB
    have e1 : decide (1 ≤ bs.length ∧ bs.length ≤ 2000) = true := by simp; omega
    have e2 : decide (0 ≤ G ∧ G ≤ 500) = true := by simp; omega
    rw [e1, e2]
    simp
  clear Hfalse
  have hnc := nodeCount_bd hsm bs.length (Nat.le_refl _)
  rw [List.take_length] at hnc
  go_enter Tryd.func14, Tryd.ntmps14
  go_wp2_with fail
  refine (countNodes_ok _ bs _ (hs0.below hb0) hsm).mono ?_
  rintro e w1 ⟨rfl, hb1⟩
  have k0 : w1.cell? ⟨w.heap.size, 0, none⟩ = some (.slice ao bs.length cap) := (hb1.cell (by simp)).trans (by simp)
  have k1 : w1.cell? ⟨w.heap.size, 1, none⟩ = some (.int .i64 G) := (hb1.cell (by simp)).trans (by simp)
  have hz1 : w.heap.size < w1.heap.size := Nat.lt_of_lt_of_le (by simp) hb1.size
  have hbb1 := below_step hb0 hb0.size hb1
  by_cases h5 : 5000 < (nodeCount bs : Int)
  · have H : Hid (implB G bs = false) := by
      show _ = _
      rw [HA.out]
      have : decide (nodeCount bs ≤ 5000) = false := by simp; omega
      rw [this]; simp
    clear HA
    go_wp2
    go_ret2
    exact ⟨⟨_, ret_tuple H.out.symm⟩, hbb1⟩
  go_wp2_with fail
  refine (groupsOK_ok G _ bs _ (hs0.below hbb1) hsm (by omega) (by omega)).mono ?_
  rintro e w2 ⟨rfl, hb2⟩
  have m0 : w2.cell? ⟨w.heap.size, 0, none⟩ = some (.slice ao bs.length cap) := (hb2.cell (by exact hz1)).trans k0
  have hbb2 := below_step hbb1 hbb1.size hb2
  have hz2 : w.heap.size < w2.heap.size := Nat.lt_of_lt_of_le hz1 hb2.size
  have e5 : decide (nodeCount bs ≤ 5000) = true := by simp; omega
  rw [e5, Bool.true_and] at HA
  clear e5 k0 k1 hb1 hb2
  by_cases h6 : grpOKs G [] (allGrp bs) = false
  · have H : Hid (implB G bs = false) := by show _ = _; rw [HA.out, h6]; simp
    clear HA
    go_wp2
    go_ret2
    exact ⟨⟨_, ret_tuple H.out.symm⟩, hbb2⟩
  have h6' : grpOKs G [] (allGrp bs) = true := by simpa using h6
  clear h6
  rw [h6', Bool.true_and] at HA
  go_wp2_with fail
  refine (liftBranches_ok _ bs _ (hs0.below hbb2) hsm).mono ?_
  rintro e w3 ⟨hb3, ⟨hf, rfl⟩ | ⟨st, xs, N, g, sc, hf, hl, rfl, hown, hparts⟩⟩
  · have H : Hid (implB G bs = false) := by show _ = _; rw [HA.out, hf]
    clear HA hf
    go_wp2
    go_ret2
    exact ⟨⟨_, ret_tuple H.out.symm⟩, below_step hbb2 hbb2.size hb3⟩
  · have H : Hid (implB G bs = decide (sumCap st ≤ 2000)) := by show _ = _; rw [HA.out, hf]
    have hst : st.length ≤ 2000000 := by omega
    clear HA hf hl
    have hbb3 := below_step hbb2 hbb2.size hb3
    have hsb := sumCap_bd hparts st.length (Nat.le_refl _)
    rw [List.take_length] at hsb
    by_cases h7 : 2000 < sumCap st
    · go_wp2_with fail
      refine (weightOfAll_ok st xs _ hown hparts hst).mono ?_
      rintro e w4 ⟨rfl, hb4⟩
      go_wp2
      go_ret2
      exact ⟨⟨_, ret_tuple (by rw [H.out]; simp; omega)⟩, below_step hbb3 hbb3.size hb4⟩
    · go_wp2_with fail
      refine (weightOfAll_ok st xs _ hown hparts hst).mono ?_
      rintro e w4 ⟨rfl, hb4⟩
      go_wp2
      go_ret2
      exact ⟨⟨_, ret_tuple (by rw [H.out]; simp; omega)⟩, below_step hbb3 hbb3.size hb4⟩
end Go.Proofs.YthgaeaihfbiolaaDoor
