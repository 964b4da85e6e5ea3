import Derived.Test.YtgbdlgogccgciaaGreatDoorLift
namespace Go.Proofs.YtgbdlgogccgciaaGreatDoor
open Go.RowKit

def liftAll : List BranchD → Option (List Int)
  | [] => some []
  | b :: bs => match liftF b.nodes with
    | none => none
    | some a => (liftAll bs).map (a :: ·)
theorem liftAll_none (bs : List BranchD) (i : Nat) (hi : i < bs.length) (bd : BranchD) (h : bs.getD i .zero = bd) (hf : liftF bd.nodes = none) : liftAll (bs.drop i) = none := by
  rw [List.drop_eq_getElem_cons hi]
  have : bs[i] = bd := by rw [← h]; simp [List.getD, hi]
  rw [this, liftAll, hf]
theorem liftAll_some (bs : List BranchD) (i : Nat) (hi : i < bs.length) (bd : BranchD) (h : bs.getD i .zero = bd) (a : Int) (hf : liftF bd.nodes = some a) : liftAll (bs.drop i) = (liftAll (bs.drop (i + 1))).map (a :: ·) := by
  rw [List.drop_eq_getElem_cons hi]
  have : bs[i] = bd := by rw [← h]; simp [List.getD, hi]
  rw [this, liftAll, hf]

theorem liftAll_step {bs : List BranchD} {k : Nat} {st : List Int} {a : Int} (h1 : liftAll bs = (liftAll (bs.drop k)).map (st ++ ·)) (h2 : liftAll (bs.drop k) = (liftAll (bs.drop (k + 1))).map (a :: ·)) : liftAll bs = (liftAll (bs.drop (k + 1))).map ((st ++ [a]) ++ ·) := by
  rw [h1, h2]
  cases liftAll (bs.drop (k + 1)) <;> simp

set_option maxRecDepth 100000 in
set_option maxHeartbeats 1000000 in
theorem liftBranches_ok {lo : Nat} (v : Value) (bs : List BranchD) (w : World) (hs : BranchesAt lo w v bs) (hsm : Small bs) :
    Calls Tryz.prog 33 #[v] w fun e w' => Below w.heap.size w w' ∧ ((liftAll bs = none ∧ e = .returned (.tuple #[.slice none 0 0, .bool false])) ∨
      ∃ (st : List Int) (xs : List Value) (N g sc : Nat), liftAll bs = some st ∧ st.length = bs.length ∧ e = .returned (.tuple #[.slice (some ⟨g, 0, none⟩) st.length sc, .bool true]) ∧ w'.ownsRow w.heap.size 116 1 (.slice (some ⟨g, 0, none⟩) st.length sc) st.length xs ∧ Parts N xs st) := by
  obtain ⟨ao, cap, rfl, hm, hc⟩ := hs
  have hn := hsm.1
  obtain ⟨i0, hi, hz0, hz1, hz2⟩ := info_parts Tryz.infoPart
  go_enter Tryz.func33, Tryz.ntmps33
  go_wp2_with (refine wpList_make_own _ rfl _ _ 75 rfl w.heap.size 116 i0 _ 1 Tryz.underlying75 hi hz0 hz1 _ _ _ bs.length rfl rfl rfl (by rw [hz2]; omega) (by unfold maxLen; omega) (Nat.le_refl _) ?_; intro w1 hown hgrow)
  have hbw : Below w.heap.size w w1 := (Below.refl _ _).grown hgrow (Nat.le_refl _) (by intro k h; cases h)
  clear hgrow
  go_loopw [4, 14] (fun s i wr => ∃ (k : Nat) (st : List Int) (g sc N : Nat) (xs : List Value), k ≤ bs.length ∧ st.length = k ∧ i = .int .i64 k ∧ s = .slice (some ⟨g, 0, none⟩) st.length sc ∧ Below w.heap.size w wr ∧ wr.ownsRow w.heap.size 116 1 (.slice (some ⟨g, 0, none⟩) st.length sc) st.length xs ∧ Parts N xs st ∧ Hid (liftAll bs = (liftAll (bs.drop k)).map (st ++ ·)))
    (fun _ i _ => bs.length - (intOf i).toNat)
  case atStart => exact ⟨0, [], _, _, 0, [], Nat.zero_le _, rfl, rfl, rfl, hbw, hown, ⟨rfl, fun j hj => absurd hj (Nat.not_lt_zero _)⟩, by show _ = _; simp⟩
  case round =>
    obtain ⟨k, st, g, sc, N, xs, hk, hstk, rfl, rfl, hb, hown, hparts, HS⟩ := hrel
    obtain ⟨hgB, hgl, hdc, hcm⟩ := own_form hown
    have HK : Hid (st.length = k) := hstk
    by_cases hlt : k < bs.length
    · obtain ⟨b, o, nv, bd, rfl, Hn, hbl, c0, c1, c2, hnv⟩ := hc.elem hb hlt
      have hz := hb.size
      have hnl : bd.nodes.length ≤ 1048576 := by have := (hsm.2 k hlt).1; rw [Hn.out] at this; exact this
      obtain ⟨nao, ncp, rfl, hnm, hnc⟩ := hnv
      have hba : Below w.heap.size w (wr.alloc (.cells #[.bool bd.bol, .bool bd.eol, .slice nao bd.nodes.length ncp] 43)) := hb.alloc hz _
      have hnva : NodesAt lo (wr.alloc (.cells #[.bool bd.bol, .bool bd.eol, .slice nao bd.nodes.length ncp] 43)) (.slice nao bd.nodes.length ncp) bd.nodes := NodesAt.below ⟨_, _, rfl, hnm, hnc⟩ ((Below.refl _ _).alloc (Nat.le_refl _) _)
      generalize hdd : st.length = d at *
      have Hdd : Hid _ := hdd
      clear hdd
      subst hstk
      go_wp2_with fail
      refine (lift_ok _ _ _ hnva hnl).mono ?_
      rintro e w2 ⟨hb2, ⟨hf, rfl⟩ | ⟨wt, t, x, M, hf, rfl, hp⟩⟩
      · have Hf : Hid _ := hf
        clear hf
        go_wp2
        go_ret2
        refine ⟨below_step hba hba.size hb2, .inl ⟨?_, rfl⟩⟩
        rw [HS.out, liftAll_none bs _ hlt bd Hn.out Hf.out]
        rfl
      · have Hf : Hid _ := hf
        clear hf
        have hown2 := ownsRow_below (hown.alloc (.cells #[.bool bd.bol, .bool bd.eol, .slice nao bd.nodes.length ncp] 43)) hb2
        have hbb2 := below_step hba hba.size hb2
        go_wp2_with (refine wpList_append_one w2 rfl (.tmp 26) (.tmp 28) 75 rfl w.heap.size 116 i0 _ 16 Tryz.underlying75 hi hz0 hz1 hz2 rfl g sc d xs _ rfl hown2 rfl rfl (by omega) (by omega) hbb2.size ?_; intro g' cap' w5 hown5 hgrow5 hat)
        go_roundw
        case rel =>
          have hl : (st ++ [wt]).length = d + 1 := by have := Hdd.out; simp; omega
          have hps : Parts (N + M) (xs ++ [.iface t x]) (st ++ [wt]) := by
            have := (hparts.mono (Nat.le_add_right N M)).push st.length (Nat.le_refl _) (IsPart.mono M (N + M) _ _ (Nat.le_add_left M N) hp)
            rw [List.take_of_length_le (by rw [hparts.1]; exact Nat.le_refl _), List.take_length] at this
            exact this
          exact ⟨d + 1, st ++ [wt], g', cap', N + M, xs ++ [.iface t x], by omega, hl, by go_num, by rw [hl], hbb2.grown hgrow5 hbb2.size (by intro q hq; cases hq; exact hgB), by rw [hl]; exact hown5, hps, liftAll_step HS.out (liftAll_some bs _ hlt bd Hn.out wt Hf.out)⟩
        case measure => simp [intOf]; omega
    · have hkk : bs.drop k = [] := List.drop_eq_nil_of_le (by omega)
      have hnl2 : st.length = bs.length := by omega
      have Hnl : Hid _ := hnl2
      clear hstk hnl2
      go_wp2
      go_ret2
      refine ⟨hb, .inr ⟨st, xs, N, g, sc, ?_, Hnl.out, rfl, hown, hparts⟩⟩
      rw [HS.out, hkk]
      simp [liftAll]

def sumCap (st : List Int) : Int := st.foldl (fun s a => capW (s + a)) 0
theorem sumCap_take (st : List Int) (k : Nat) (hk : k < st.length) : sumCap (st.take (k + 1)) = capW (sumCap (st.take k) + st.getD k 0) := by
  unfold sumCap
  rw [List.take_succ_eq_append_getElem hk, List.foldl_append]
  simp [List.getD, hk]
theorem capW_nonneg {n : Int} (h : 0 ≤ n) : 0 ≤ capW n ∧ capW n ≤ 2001 := by unfold capW; split <;> omega
theorem sumCap_bd {N : Nat} {xs : List Value} {st : List Int} (h : Parts N xs st) : ∀ k, k ≤ st.length → 0 ≤ sumCap (st.take k) ∧ sumCap (st.take k) ≤ 2001
  | 0, _ => by simp [sumCap]
  | k + 1, hk => by
    rw [sumCap_take st k (by omega)]
    obtain ⟨t, x, _, hp⟩ := h.2 k (by omega)
    have := IsPart.facts N _ _ hp
    have h2 := sumCap_bd h k (by omega)
    exact capW_nonneg (by omega)

set_option maxRecDepth 100000 in
set_option maxHeartbeats 1000000 in
theorem weightOfAll_ok {B N g sc : Nat} (st : List Int) (xs : List Value) (w : World) (hown : w.ownsRow B 116 1 (.slice (some ⟨g, 0, none⟩) st.length sc) st.length xs) (hparts : Parts N xs st) (hn : st.length ≤ 2000000) :
    Calls Tryz.prog 34 #[.slice (some ⟨g, 0, none⟩) st.length sc] w fun e w' => e = .returned (.int .i64 (sumCap st)) ∧ Below w.heap.size w w' := by
  go_enter Tryz.func34, Tryz.ntmps34
  go_wp2
  go_loopw [3, 8] (fun s i wr => ∃ k : Nat, k ≤ st.length ∧ i = .int .i64 k ∧ s = .int .i64 (sumCap (st.take k)) ∧ Below w.heap.size w wr)
    (fun _ i _ => st.length - (intOf i).toNat)
  case atStart => exact ⟨0, Nat.zero_le _, rfl, rfl, Below.refl _ _⟩
  case round =>
    obtain ⟨k, hk, rfl, rfl, hb⟩ := hrel
    have hsb := sumCap_bd hparts k hk
    by_cases hlt : k < st.length
    · obtain ⟨t, x, hx, hp⟩ := hparts.2 k hlt
      have hownr := ownsRow_below hown hb
      have c0 : wr.cell? ⟨g, k, none⟩ = some (.iface t x) := (hownr.cellAt k (by omega)).trans hx
      have HT : Hid _ := sumCap_take st k hlt
      obtain ⟨hw, hp1, hp2⟩ := IsPart.facts N _ _ hp
      generalize st.getD k 0 = a at *
      generalize hss : sumCap (st.take k) = s at *
      have Hss : Hid _ := hss
      have hwr : IntKind.i64.wrap (s + a) = s + a := by rw [IntKind.wrap_i64]; omega
      clear hss hx hownr
      go_wp2_with (first | (refine wpList_weight _ rfl (.tmp 13) _ rfl _ _ rfl hw ⟨fun _ _ => by kernel_rfl, fun _ _ => by kernel_rfl, fun _ _ => by kernel_rfl, fun _ _ => by kernel_rfl, fun _ _ => by kernel_rfl⟩ ?_; intro w2 hb2) | (go_at_call 56; refine (capWeight_ok _ _).mono ?_; rintro e w4 ⟨rfl, rfl⟩))
      go_roundw
      case rel => exact ⟨k + 1, by omega, by go_num, by rw [HT.out], below_step hb hb.size hb2⟩
      case measure => simp [intOf]; omega
    · go_wp2
      go_ret
      exact ⟨ret_int (by rw [List.take_of_length_le (by omega)]), hb⟩

def nodeCount : List BranchD → Nat
  | [] => 0
  | b :: bs => b.nodes.length + nodeCount bs
theorem nodeCount_take (bs : List BranchD) (k : Nat) (hk : k < bs.length) : nodeCount (bs.take (k + 1)) = nodeCount (bs.take k) + (bs.getD k .zero).nodes.length := by
  induction bs generalizing k with
  | nil => exact absurd hk (Nat.not_lt_zero _)
  | cons b bs ih =>
    cases k with
    | zero => simp [nodeCount, List.getD]
    | succ k =>
      have := ih k (by simpa using hk)
      simp only [List.take_succ_cons, nodeCount, List.getD_cons_succ] at this ⊢
      omega
theorem nodeCount_bd {bs : List BranchD} (h : Small bs) : ∀ k, k ≤ bs.length → nodeCount (bs.take k) ≤ k * 1048576
  | 0, _ => by simp [nodeCount]
  | k + 1, hk => by
    have h1 := nodeCount_bd h k (by omega)
    have h2 := (h.2 k (by omega)).1
    rw [nodeCount_take bs k (by omega)]
    omega

end Go.Proofs.YtgbdlgogccgciaaGreatDoor
namespace Go.Proofs.YtgbdlgogccgciaaGreatDoor
open Go.RowKit

def seenArr (f : Nat → Bool) : Array Value := ((List.range 501).map fun c => Value.bool (f c)).toArray
theorem seenArr_size (f : Nat → Bool) : (seenArr f).size = 501 := by simp [seenArr]
theorem seenArr_get (f : Nat → Bool) (i : Nat) (h : i < 501) : (seenArr f)[i]? = some (.bool (f i)) := by simp [seenArr, h]
theorem seenArr_ext {f g : Nat → Bool} (h : ∀ c, c < 501 → f c = g c) : seenArr f = seenArr g := by
  unfold seenArr
  rw [List.map_congr_left fun c hc => by rw [h c (by simpa using hc)]]
theorem seenArr_set (f : Nat → Bool) (i : Nat) : (seenArr f).setIfInBounds i (.bool true) = seenArr (fun c => f c || c == i) := by
  apply Array.ext_getElem?
  intro j
  rw [Array.getElem?_setIfInBounds, seenArr_size]
  by_cases hj : j < 501
  · rw [seenArr_get _ _ hj, seenArr_get _ _ hj]
    by_cases e : i = j
    · subst e; simp [hj]
    · have e' : (j == i) = false := by simp; omega
      simp [e, e']
  · have h1 : ∀ g, (seenArr g)[j]? = none := fun g => Array.getElem?_eq_none (by rw [seenArr_size]; omega)
    rw [h1, h1]
    split <;> simp_all
def inDone (done : List Int) : Nat → Bool := fun c => decide ((c : Int) ∈ done)
theorem seenArr_cons (done : List Int) (q : Nat) : seenArr (fun c => inDone done c || c == q) = seenArr (inDone ((q : Int) :: done)) := seenArr_ext fun c _ => by
  unfold inDone
  by_cases e : c = q
  · subst e; simp
  · have e' : (c == q) = false := beq_eq_false_iff_ne.2 e
    have e2 : ¬ (c : Int) = (q : Int) := by omega
    simp [e', e2]

def grp : List NodeD → List Int
  | [] => []
  | n :: ns => if n.kind = 5 then n.group :: grp ns else grp ns
def allGrp : List BranchD → List Int
  | [] => []
  | b :: bs => grp b.nodes ++ allGrp bs
def grpOKs (G : Int) : List Int → List Int → Bool
  | done, [] => ((done.length : Int) == G)
  | done, g :: gs => if g < 1 ∨ G < g ∨ g ∈ done then false else grpOKs G (g :: done) gs
theorem grp_drop (ns : List NodeD) (i : Nat) (hi : i < ns.length) (nd : NodeD) (h : ns.getD i .zero = nd) : grp (ns.drop i) = if nd.kind = 5 then nd.group :: grp (ns.drop (i + 1)) else grp (ns.drop (i + 1)) := by
  rw [List.drop_eq_getElem_cons hi]
  have : ns[i] = nd := by rw [← h]; simp [List.getD, hi]
  rw [this, grp]
theorem allGrp_drop (bs : List BranchD) (i : Nat) (hi : i < bs.length) (bd : BranchD) (h : bs.getD i .zero = bd) : allGrp (bs.drop i) = grp (bd.nodes.drop 0) ++ allGrp (bs.drop (i + 1)) := by
  rw [List.drop_eq_getElem_cons hi]
  have : bs[i] = bd := by rw [← h]; simp [List.getD, hi]
  rw [this, allGrp]
  rfl

end Go.Proofs.YtgbdlgogccgciaaGreatDoor
namespace Go.Proofs.YtgbdlgogccgciaaGreatDoor
open Go.RowKit

def implB (G : Int) (bs : List BranchD) : Bool :=
  decide (1 ≤ bs.length ∧ bs.length ≤ 2000) && decide (0 ≤ G ∧ G ≤ 500) && decide (nodeCount bs ≤ 5000) && grpOKs G [] (allGrp bs) && match liftAll bs with
    | none => false
    | some st => decide (sumCap st ≤ 2000)

theorem ret_tuple {v : Value} {a b : Bool} (h : a = b) : Ending.returned (.tuple #[v, .bool a]) = .returned (.tuple #[v, .bool b]) := by rw [h]

end Go.Proofs.YtgbdlgogccgciaaGreatDoor
