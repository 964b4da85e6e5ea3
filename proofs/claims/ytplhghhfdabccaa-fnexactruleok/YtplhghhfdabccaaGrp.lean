import Derived.Test.YtplhghhfdabccaaAll
namespace Go.Proofs.Ytplhghhfdabccaa
open Go.RowKit

def seenArr (f : Nat → Bool) : Array Value := ((List.range 501).map fun c => Value.bool (f c)).toArray
theorem seenArr_size (f : Nat → Bool) : (seenArr f).size = 501 := by simp [seenArr]
theorem seenArr_get (f : Nat → Bool) (i : Nat) (h : i < 501) : (seenArr f)[i]? = some (.bool (f i)) := by simp [seenArr, h]
theorem seenArr_ext {f g : Nat → Bool} (h : ∀ c, c < 501 → f c = g c) : seenArr f = seenArr g := by
  unfold seenArr
  rw [List.map_congr_left fun c hc => by rw [h c (by simpa using hc)]]
theorem seenArr_set (f : Nat → Bool) (i : Nat) : (seenArr f).setIfInBounds i (.bool true) = seenArr (fun c => f c || c == i) := by
  apply Array.ext_getElem?
  intro j
  rw [Array.getElem?_setIfInBounds, seenArr_size]
  by_cases hj : j < 501
  · rw [seenArr_get _ _ hj, seenArr_get _ _ hj]
    by_cases e : i = j
    · subst e; simp [hj]
    · have e' : (j == i) = false := by simp; omega
      simp [e, e']
  · have h1 : ∀ g, (seenArr g)[j]? = none := fun g => Array.getElem?_eq_none (by rw [seenArr_size]; omega)
    rw [h1, h1]
    split <;> simp_all
def inDone (done : List Int) : Nat → Bool := fun c => decide ((c : Int) ∈ done)
theorem seenArr_cons (done : List Int) (q : Nat) : seenArr (fun c => inDone done c || c == q) = seenArr (inDone ((q : Int) :: done)) := seenArr_ext fun c _ => by
  unfold inDone
  by_cases e : c = q
  · subst e; simp
  · have e' : (c == q) = false := beq_eq_false_iff_ne.2 e
    have e2 : ¬ (c : Int) = (q : Int) := by omega
    simp [e', e2]

theorem Try.zeroSeen : (Try.prog.info? 160).map (fun i => (i.zero, i.size)) = some (some (.agg (seenArr (inDone []))), 501) := by kernel_rfl

def grp : List NodeD → List Int
  | [] => []
  | n :: ns => if n.kind = 5 then n.group :: grp ns else grp ns
def allGrp : List BranchD → List Int
  | [] => []
  | b :: bs => grp b.nodes ++ allGrp bs
def grpOKs (G : Int) : List Int → List Int → Bool
  | done, [] => ((done.length : Int) == G)
  | done, g :: gs => if g < 1 ∨ G < g ∨ g ∈ done then false else grpOKs G (g :: done) gs
theorem grp_drop (ns : List NodeD) (i : Nat) (hi : i < ns.length) (nd : NodeD) (h : ns.getD i .zero = nd) : grp (ns.drop i) = if nd.kind = 5 then nd.group :: grp (ns.drop (i + 1)) else grp (ns.drop (i + 1)) := by
  rw [List.drop_eq_getElem_cons hi]
  have : ns[i] = nd := by rw [← h]; simp [List.getD, hi]
  rw [this, grp]
theorem allGrp_drop (bs : List BranchD) (i : Nat) (hi : i < bs.length) (bd : BranchD) (h : bs.getD i .zero = bd) : allGrp (bs.drop i) = grp (bd.nodes.drop 0) ++ allGrp (bs.drop (i + 1)) := by
  rw [List.drop_eq_getElem_cons hi]
  have : bs[i] = bd := by rw [← h]; simp [List.getD, hi]
  rw [this, allGrp]
  rfl

set_option maxRecDepth 100000 in
set_option maxHeartbeats 2000000 in
theorem groupsOK_ok {lo : Nat} (G : Int) (v : Value) (bs : List BranchD) (w : World) (hs : BranchesAt lo w v bs) (hsm : Small bs) (hG0 : 0 ≤ G) (hG1 : G ≤ 500) :
    Calls Try.prog 99 #[.agg #[v, .int .i64 G]] w fun e w' => e = .returned (.bool (grpOKs G [] (allGrp bs))) ∧ Below w.heap.size w w' := by
  obtain ⟨ao, cap, rfl, hm, hc⟩ := hs
  have hn := hsm.1
  have hzv := (zero_of_info Try.zeroSeen).1
  go_enter Try.func99, Try.ntmps99
  go_wp2
  go_loopw [4, 12] (fun f i wr => ∃ (k : Nat) (done : List Int), k ≤ bs.length ∧ i = .int .i64 k ∧ f = .int .i64 done.length ∧ done.length ≤ k * 1048576 ∧ Below w.heap.size w wr ∧ wr.cell? ⟨w.heap.size, 1, none⟩ = some (.int .i64 G) ∧ Hid (wr.heap[w.heap.size + 1]? = some (.cells (seenArr (inDone done)) 160 (0, 0))) ∧ w.heap.size + 1 < wr.heap.size ∧ Hid (grpOKs G [] (allGrp bs) = grpOKs G done (allGrp (bs.drop k))))
    (fun _ i _ => bs.length - (intOf i).toNat)
  case atStart => exact ⟨0, [], Nat.zero_le _, rfl, rfl, by simp, ((Below.refl _ _).alloc (Nat.le_refl _) _).alloc (by simp) _, by simp, heap_alloc2_new _ _ _, by simp, rfl⟩
  case round =>
    obtain ⟨k, done, hk, rfl, rfl, hdl, hb, hbox, Hseen, hsz, HS⟩ := hrel
    by_cases hlt : k < bs.length
    · obtain ⟨b, o, nv, bd, rfl, Hn, hbl, k0, k1, k2, hnv⟩ := hc.elem (Below.refl _ _) hlt
      have c0 := (hb.cell (p := ⟨b, o + k * 3, none⟩) hbl).trans k0
      have c1 := (hb.cell (p := ⟨b, o + k * 3 + 1, none⟩) hbl).trans k1
      have c2 := (hb.cell (p := ⟨b, o + k * 3 + 2, none⟩) hbl).trans k2
      clear k0 k1 k2
      have hnl : bd.nodes.length ≤ 1048576 := by have := (hsm.2 k hlt).1; rw [Hn.out] at this; exact this
      obtain ⟨nao, ncp, rfl, hnm, hnc⟩ := hnv
      have HA : Hid _ := allGrp_drop bs k hlt bd Hn.out
      generalize htl : allGrp (bs.drop (k + 1)) = tl at *
      have Htl : Hid _ := htl
      clear htl
      have hba : Below w.heap.size w (wr.alloc (.cells #[.bool bd.bol, .bool bd.eol, .slice nao bd.nodes.length ncp] 83)) := hb.alloc hb.size _
      have hbox2 : (wr.alloc (.cells #[.bool bd.bol, .bool bd.eol, .slice nao bd.nodes.length ncp] 83)).cell? ⟨w.heap.size, 1, none⟩ = some (.int .i64 G) := (World.cell?_of_block (Below.heap_alloc _ _ _ (by simp; omega))).trans hbox
      have Hseen2 : Hid _ := row_alloc (ob := .cells #[.bool bd.bol, .bool bd.eol, .slice nao bd.nodes.length ncp] 83) Hseen.out
      have hWs : w.heap.size + 1 < (wr.alloc (.cells #[.bool bd.bol, .bool bd.eol, .slice nao bd.nodes.length ncp] 83)).heap.size := by simp; omega
      go_wp2
      generalize (wr.alloc (.cells #[.bool bd.bol, .bool bd.eol, .slice nao bd.nodes.length ncp] 83)) = W at *
      go_loopw [4, 19] (fun f i wq => ∃ (j : Nat) (dn : List Int), j ≤ bd.nodes.length ∧ i = .int .i64 j ∧ f = .int .i64 dn.length ∧ dn.length ≤ k * 1048576 + j ∧ Below w.heap.size w wq ∧ wq.cell? ⟨w.heap.size, 1, none⟩ = some (.int .i64 G) ∧ Hid (wq.heap[w.heap.size + 1]? = some (.cells (seenArr (inDone dn)) 160 (0, 0))) ∧ w.heap.size + 1 < wq.heap.size ∧ Hid (grpOKs G [] (allGrp bs) = grpOKs G dn (grp (bd.nodes.drop j) ++ tl)))
        (fun _ i _ => bd.nodes.length - (intOf i).toNat)
      case atStart => exact ⟨0, done, Nat.zero_le _, rfl, rfl, Nat.le_trans hdl (Nat.le_add_right _ _), hba, hbox2, Hseen2, hWs, by show _ = _; rw [HS.out, HA.out]⟩
      case round =>
        obtain ⟨j, dn, hj, rfl, rfl, hdl2, hbq, hboxq, Hsq, hszq, HQ⟩ := hrel
        by_cases hlt2 : j < bd.nodes.length
        · obtain ⟨b2, o2, sv, nd, rfl, Hn2, hbl2, d0, d1, d2, d3, d4, hsv⟩ := hnc.elem hbq hlt2
          have HG : Hid _ := grp_drop bd.nodes j hlt2 nd Hn2.out
          obtain ⟨kd, rs, mn, mx, gr⟩ := nd
          simp only at d0 d2 d3 d4 hsv HG
          obtain ⟨sao, scp, rfl, hsm2, hsc⟩ := hsv
          have hqz := hbq.size
          have hbqa : Below w.heap.size w (wr.alloc (.cells #[.int .i64 kd, .slice sao rs.length scp, .int .i64 mn, .int .i64 mx, .int .i64 gr] 88)) := hbq.alloc hqz _
          have Hsqa : Hid _ := row_alloc (ob := .cells #[.int .i64 kd, .slice sao rs.length scp, .int .i64 mn, .int .i64 mx, .int .i64 gr] 88) Hsq.out
          have hboxa : (wr.alloc (.cells #[.int .i64 kd, .slice sao rs.length scp, .int .i64 mn, .int .i64 mx, .int .i64 gr] 88)).cell? ⟨w.heap.size, 1, none⟩ = some (.int .i64 G) := (World.cell?_of_block (Below.heap_alloc _ _ _ (by simp; omega))).trans hboxq
          by_cases h5 : kd = 5
          · subst h5
            have HG2 : Hid (grpOKs G [] (allGrp bs) = if gr < 1 ∨ G < gr ∨ gr ∈ dn then false else grpOKs G (gr :: dn) (grp (bd.nodes.drop (j + 1)) ++ tl)) := by show _ = _; rw [HQ.out, HG.out, if_pos rfl]; rfl
            by_cases g1 : gr < 1
            · go_wp2
              go_ret
              exact ⟨ret_bool (by rw [HG2.out, if_pos (.inl g1)]), hbqa⟩
            by_cases g2 : G < gr
            · go_wp2
              go_ret
              exact ⟨ret_bool (by rw [HG2.out, if_pos (.inr (.inl g2))]), hbqa⟩
            obtain ⟨q, rfl⟩ := Int.eq_ofNat_of_zero_le (show 0 ≤ gr by omega)
            have hq : q < 501 := by omega
            have s0 : wr.cell? ⟨w.heap.size + 1, q, none⟩ = some (.bool (inDone dn q)) := by rw [cell_of_row _ _ _ _ _ _ Hsq.out, seenArr_get _ _ hq]
            have fz0 : wr.frozen? ⟨w.heap.size + 1, q, none⟩ = false := frozen_of_row _ _ _ _ _ Hsq.out
            by_cases g3 : inDone dn q = true
            · go_wp2
              go_ret
              exact ⟨ret_bool (by rw [HG2.out, if_pos (.inr (.inr (by simpa [inDone] using g3)))]), hbqa⟩
            have g3' : inDone dn q = false := by simpa using g3
            clear g3
            go_wp2
            go_roundw
            case rel => exact ⟨j + 1, (q : Int) :: dn, by omega, by go_num, by simp, by simp; omega, (hbq.setCell (by simp) _).alloc (by simpa [World.setCell] using hqz) _, (World.cell?_of_block (Below.heap_alloc _ _ _ (by simp [World.setCell]; omega))).trans ((World.cell?_of_block (heap_setCell_other _ _ _ _ (by simp))).trans hboxq), row_alloc (by rw [heap_setCell_same _ _ _ _ _ _ Hsq.out, seenArr_set, seenArr_cons]), by simp [World.setCell]; omega, by show _ = _; rw [HG2.out, if_neg (by rintro (h | h | h); omega; omega; simp [inDone] at g3'; exact g3' h)]⟩
            case measure => simp [intOf]; omega
          · have h5' : (kd != 5) = true := by rw [bne_iff_ne]; exact h5
            have H5 : Hid _ := h5
            clear h5
            go_wp2
            go_roundw
            case rel => exact ⟨j + 1, dn, by omega, by go_num, rfl, by omega, hbqa, hboxa, Hsqa, by simp; omega, by show _ = _; rw [HQ.out, HG.out, if_neg H5.out]⟩
            case measure => simp [intOf]; omega
        · have hjj : j = bd.nodes.length := by omega
          have hnil : bd.nodes.drop j = [] := List.drop_eq_nil_of_le (by omega)
          rw [hnil] at HQ
          have hdl3 : dn.length ≤ (k + 1) * 1048576 := by omega
          clear hjj hnil
          go_wp2
          go_roundw
          case rel => exact ⟨k + 1, dn, by omega, by go_num, rfl, hdl3, hbq, hboxq, Hsq, hszq, by show _ = _; rw [HQ.out, Htl.out]; rfl⟩
          case measure => simp [intOf]; omega
    · have hbd : bs.drop k = [] := List.drop_eq_nil_of_le (by omega)
      go_wp2
      go_ret
      refine ⟨ret_bool ?_, hb⟩
      rw [HS.out, hbd]
      rfl
end Go.Proofs.Ytplhghhfdabccaa
