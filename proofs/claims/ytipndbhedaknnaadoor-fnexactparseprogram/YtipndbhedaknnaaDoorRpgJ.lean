import Derived.Test.YtipndbhedaknnaaDoorRpgI
namespace Go.Proofs.YtipndbhedaknnaaDoor
open Go.RowKit Go.Shelf
attribute [local go_sem] Oper.semAt_some

def linesWP (w : World) (t : ByteArray) (bm : Nat) : World := (((((((w.alloc (.cells #[.map (some bm)] 52)).alloc (.cells #[.int .i64 2] 3)).alloc (.cells #[.int .i64 0] 3)).alloc (.cells #[.int .i64 0] 3)).alloc (.cells #[.int .i64 0] 3)).alloc (.cells #[.string t] 9)).alloc (.cells #[.string ⟨#[10]⟩] 9)).alloc (.cells #[.int .i64 0] 3)
theorem lines_sizeP (w : World) (t : ByteArray) (bm : Nat) : (linesWP w t bm).heap.size = w.heap.size + 8 := by unfold linesWP; simp
theorem lines_lowP (w : World) (t : ByteArray) (bm : Nat) : Below w.heap.size w (linesWP w t bm) :=
  ((((((((Below.refl _ w).alloc (Nat.le_refl _) _).alloc (by simp) _).alloc (by simp; omega) _).alloc (by simp; omega) _).alloc (by simp; omega) _).alloc (by simp; omega) _).alloc (by simp; omega) _).alloc (by simp; omega) _
theorem lines_boxesP (w : World) (t : ByteArray) (bm br : Nat) (hm : w.heap[bm]? = some (.map (mapP br) 5)) : RBp w.heap.size bm br 0 (linesWP w t bm) ∧ Boxed (linesWP w t bm) (w.heap.size + 1 + 1 + 1 + 1 + 1) 9 (.string t) ∧ Boxed (linesWP w t bm) (w.heap.size + 1 + 1 + 1 + 1 + 1 + 1) 9 (.string ⟨#[10]⟩) ∧ Boxed (linesWP w t bm) (w.heap.size + 1 + 1 + 1 + 1 + 1 + 1 + 1) 3 (.int .i64 0) := by
  have a0 := Boxed.new w 52 (.map (some bm))
  have a1 := Boxed.new (w.alloc (.cells #[.map (some bm)] 52)) 3 (.int .i64 2)
  have a2 := Boxed.new ((w.alloc (.cells #[.map (some bm)] 52)).alloc (.cells #[.int .i64 2] 3)) 3 (.int .i64 0)
  have a3 := Boxed.new (((w.alloc (.cells #[.map (some bm)] 52)).alloc (.cells #[.int .i64 2] 3)).alloc (.cells #[.int .i64 0] 3)) 3 (.int .i64 0)
  have a4 := Boxed.new ((((w.alloc (.cells #[.map (some bm)] 52)).alloc (.cells #[.int .i64 2] 3)).alloc (.cells #[.int .i64 0] 3)).alloc (.cells #[.int .i64 0] 3)) 3 (.int .i64 0)
  have a5 := Boxed.new (((((w.alloc (.cells #[.map (some bm)] 52)).alloc (.cells #[.int .i64 2] 3)).alloc (.cells #[.int .i64 0] 3)).alloc (.cells #[.int .i64 0] 3)).alloc (.cells #[.int .i64 0] 3)) 9 (.string t)
  have a6 := Boxed.new ((((((w.alloc (.cells #[.map (some bm)] 52)).alloc (.cells #[.int .i64 2] 3)).alloc (.cells #[.int .i64 0] 3)).alloc (.cells #[.int .i64 0] 3)).alloc (.cells #[.int .i64 0] 3)).alloc (.cells #[.string t] 9)) 9 (.string ⟨#[10]⟩)
  have a7 := Boxed.new (((((((w.alloc (.cells #[.map (some bm)] 52)).alloc (.cells #[.int .i64 2] 3)).alloc (.cells #[.int .i64 0] 3)).alloc (.cells #[.int .i64 0] 3)).alloc (.cells #[.int .i64 0] 3)).alloc (.cells #[.string t] 9)).alloc (.cells #[.string ⟨#[10]⟩] 9)) 3 (.int .i64 0)
  simp only [World.size_alloc] at a1 a2 a3 a4 a5 a6 a7
  exact ⟨⟨((((((a0.alloc _).alloc _).alloc _).alloc _).alloc _).alloc _).alloc _, (((((a1.alloc _).alloc _).alloc _).alloc _).alloc _).alloc _, ((((a2.alloc _).alloc _).alloc _).alloc _).alloc _, (((a3.alloc _).alloc _).alloc _).alloc _, ((a4.alloc _).alloc _).alloc _, ((lines_lowP w t bm).block bm (Array.getElem?_eq_some_iff.1 hm).1).trans hm⟩, (a5.alloc _).alloc _, a6.alloc _, a7⟩
set_option maxRecDepth 100000 in
set_option maxHeartbeats 8000000 in
theorem progLines_ok (t : ByteArray) (n₀ bm br : Nat) (wS w : World) (hsz : t.size ≤ 20000) (hlow : Below n₀ wS w) (hn : n₀ ≤ wS.heap.size) (hbr0 : n₀ ≤ br) (hbr : br < w.heap.size) (hbm : bm < w.heap.size) (hne : bm ≠ br) (hm : w.heap[bm]? = some (.map (mapP br) 5)) (hr : w.heap[br]? = some (.cells #[.int .i64 0, .int .i64 0, .slice none 0 0] 50 (0, 0))) :
    Calls Tryd.prog 22 #[.string t, .map (some bm), .int .i64 2] w fun e w' => Below n₀ wS w' ∧
      ((∃ sv cv p, e = .returned (.tuple #[.int .i64 0, .int .i64 0]) ∧ (∃ k, progL 0 .zero (cutF 10 t.data.toList) = progL k p []) ∧ PrgOK p ∧ PrAt (w.heap.size + 8) br w' sv cv p) ∨
       (∃ code line, e = .returned (.tuple #[.int .i64 code, .int .i64 line]) ∧ ¬code = 0 ∧ progL 0 .zero (cutF 10 t.data.toList) = (.zero, code, line))) := by
  refine (callsIn_wide (n := 5)).1 ?_
  refine callsIn_of_wp_marks Tryd.func22 rfl trivial ?_ rfl
  simp only [Tryd.ntmps22, List.size_toArray, List.length_cons, List.length_nil, Nat.reduceAdd, Nat.reduceSub, Array.replicate_succ, Array.replicate_zero, List.push_toArray, List.append_toArray, List.nil_append, List.cons_append]
  gi_wp2_with (refine ⟨trivial, ?_⟩; gi_at_call 40; refine (splitSeqO_in _ (by omega) _ _ _).mono ?_; rintro e w' ⟨rfl, rfl⟩)
  have hszE := lines_sizeP w t bm
  have hlow0 := lines_lowP w t bm
  obtain ⟨hRB, hB5, hB6, hB7⟩ := lines_boxesP w t bm br hm
  obtain ⟨W0, hW0⟩ : ∃ W0, linesWP w t bm = W0 := ⟨_, rfl⟩
  rw [show (((((((w.alloc (.cells #[.map (some bm)] 52)).alloc (.cells #[.int .i64 2] 3)).alloc (.cells #[.int .i64 0] 3)).alloc (.cells #[.int .i64 0] 3)).alloc (.cells #[.int .i64 0] 3)).alloc (.cells #[.string t] 9)).alloc (.cells #[.string ⟨#[10]⟩] 9)).alloc (.cells #[.int .i64 0] 3) = W0 from hW0]
  rw [hW0] at hszE hlow0 hRB hB5 hB6 hB7
  clear hW0
  have hr0 : PrAt (w.heap.size + 8) br W0 (.slice none 0 0) (fun _ => .slice none 0 0) .zero := ⟨(hlow0.block br hbr).trans hr, PrV.zero _ _ _⟩
  have hlowW : Below n₀ wS W0 := hlow.trans (hlow0.mono (by omega))
  refine wpIn_rangeB (by omega) (gf := 59) (lb := #[.pointer (some ⟨w.heap.size + 1 + 1 + 1 + 1 + 1 + 1, 0, none⟩), .pointer (some ⟨w.heap.size + 1 + 1 + 1 + 1 + 1, 0, none⟩), .pointer (some ⟨w.heap.size + 1 + 1 + 1 + 1 + 1 + 1 + 1, 0, none⟩)]) rfl (enters_of Tryd.func59 (by kernel_rfl) rfl)
    (b := w.heap.size + 1 + 1 + 1 + 1 + 1) (T := [w.heap.size + 1 + 1 + 1 + 1 + 1, w.heap.size + 1 + 1 + 1 + 1 + 1 + 1, w.heap.size + 1 + 1 + 1 + 1 + 1 + 1 + 1]) (by omega) (by intro k hk; simp at hk; omega)
    (splitSeq_runs 4 (w.heap.size + 1 + 1 + 1 + 1 + 1) t 10 (by omega) (by omega) W0 hB5 hB6 hB7) (fun _ => rfl)
    (fun pre W => (RBp w.heap.size bm br pre.length W ∧ ∃ sv cv p, PrAt (w.heap.size + 8) br W sv cv p ∧ PrgPre (pre.map toL) p) ∧ (Below n₀ wS W ∧ w.heap.size + 8 ≤ W.heap.size))
    (fun c pre W => (c = .ret ∧ ∃ code line, PrgEnd (pre.map toL) code line ∧ Boxed W (w.heap.size + 1 + 1) 3 (.int .i64 code) ∧ Boxed W (w.heap.size + 1 + 1 + 1) 3 (.int .i64 line)) ∧ Below n₀ wS W)
    (fun s A B hs ht => by
      rw [hszE] at ht
      obtain ⟨⟨h1, sv, cv, p, h2, h3⟩, h4⟩ := hs
      exact ⟨⟨h1.turn hbm ht, sv, cv, p, h2.turn ht (by omega) (by omega), h3⟩, ht.below h4.1 (by omega) (by omega) hn, Nat.le_trans h4.2 ht.size⟩)
    (fun c s A B hs ht => by
      rw [hszE] at ht
      obtain ⟨⟨h1, code, line, h2, h3, h4⟩, h5⟩ := hs
      exact ⟨⟨h1, code, line, h2, ht.boxed h3 (by omega), ht.boxed h4 (by omega)⟩, ht.below h5 (by omega) (by omega) hn⟩)
    ⟨⟨hRB, _, _, _, hr0, PrgPre.start⟩, hlowW, by omega⟩
    (fun x => { tmps := #[.string t, .map (some bm), .int .i64 2, undef, .pointer (some ⟨w.heap.size, 0, none⟩), .pointer (some ⟨w.heap.size + 1, 0, none⟩), .pointer (some ⟨w.heap.size + 1 + 1, 0, none⟩), .pointer (some ⟨w.heap.size + 1 + 1 + 1, 0, none⟩), .pointer (some ⟨w.heap.size + 1 + 1 + 1 + 1, 0, none⟩), .string x.1, undef, undef, undef, undef, .string t, .func (.func 59) #[] #[.pointer (some ⟨w.heap.size + 1 + 1 + 1 + 1 + 1 + 1, 0, none⟩), .pointer (some ⟨w.heap.size + 1 + 1 + 1 + 1 + 1, 0, none⟩), .pointer (some ⟨w.heap.size + 1 + 1 + 1 + 1 + 1 + 1 + 1, 0, none⟩)], .string x.1, undef, undef, undef, undef, undef, undef, undef, undef, undef, undef, undef, undef, undef, undef, undef, undef, undef, undef, undef, undef, undef, undef, undef, undef, undef, undef, undef, undef, undef, undef, undef, undef, undef], defers := [] })
    ?assign ?body ?done ?stop
  case assign =>
    intro l x W K hK
    gi_wp2
    exact hK
  case body =>
    rintro l pre ⟨x, hx⟩ W hl ⟨⟨hB, sv, cv, p, hra, hsp⟩, hlw, hWs⟩ hlen
    rw [hszE] at hl ⊢
    rw [cut_len] at hlen
    have hpl : pre.length ≤ 20001 := by
      have h1 := List.count_le_length (a := (10 : UInt8)) (l := t.data.toList)
      have h2 : t.data.toList.length = t.size := by simp
      omega
    clear hlen
    have hR1 := RndP.start hB hbm hlw hWs (by omega) ((pre.length : Int) + 1)
    have hra1 : PrAt (w.heap.size + 8) br (W.setCell ⟨w.heap.size + 1 + 1 + 1 + 1, 0, none⟩ (.int .i64 ((pre.length : Int) + 1))) sv cv p := hra.of (Below.heap_setCell W _ _ br (by show br ≠ w.heap.size + 1 + 1 + 1 + 1; omega)) (fun g c t hg _ => Below.heap_setCell W _ _ g (by show g ≠ w.heap.size + 1 + 1 + 1 + 1; omega))
    have c8 := hB.b8.cell
    have f8 := hB.b8.frozen
    have hmap : (pre ++ [(⟨x, hx⟩ : Ln)]).map toL = pre.map toL ++ [x.data.toList] := by simp [toL]
    have hlen2 : ((pre ++ [(⟨x, hx⟩ : Ln)]).length : Int) = (pre.length : Int) + 1 := by simp
    have hml : ((pre.map toL).length : Int) = (pre.length : Int) := by simp
    obtain ⟨np, hnp⟩ : ∃ np : Nat, pre.length = np := ⟨_, rfl⟩
    rw [hnp] at hpl hR1 hra1 c8 hlen2 hml
    clear hnp
    have hxe := empty_of x
    by_cases hx0 : x.size = 0
    · have hsk : skipF x.data.toList = true := by
        have : x.data.toList = [] := List.eq_nil_of_length_eq_zero (by simpa using hx0)
        rw [this]; rfl
      rw [decide_eq_true hx0] at hxe
      gi_wp2
      exact ⟨hR1.keep, fun k hk => hR1.kp k (by simp at hk; omega) (by simp at hk; omega), ⟨by rw [hlen2]; exact hR1.rb, sv, cv, p, hra1, by rw [hmap]; exact hsp.skip hsk⟩, hR1.low, hR1.size⟩
    rw [decide_eq_false hx0] at hxe
    have hx1 : (0 : Int) < (x.size : Int) := by omega
    have hx2 : 0 < x.size := by omega
    by_cases h35 : (x[0].toNat : Int) = 35
    · have hsk : skipF x.data.toList = true := by
        have := drop_at x 0 hx2
        rw [List.drop_zero] at this
        rw [this]
        simp [skipF]
        omega
      gi_wp2
      exact ⟨hR1.keep, fun k hk => hR1.kp k (by simp at hk; omega) (by simp at hk; omega), ⟨by rw [hlen2]; exact hR1.rb, sv, cv, p, hra1, by rw [hmap]; exact hsp.skip hsk⟩, hR1.low, hR1.size⟩
    have hsk : skipF x.data.toList = false := by
      have := drop_at x 0 hx2
      rw [List.drop_zero] at this
      rw [this]
      simp [skipF]
      omega
    have hd35 : ((x[0].toNat : Int) == 35) = false := by simpa using h35
    gi_wp2_with (refine ⟨trivial, ?_⟩; gi_at_call 41; refine (CallsIn.inRound l (callsIn_wide.2 (split_ok x 32 _ hx))).mono ?_; rintro e w2 ⟨g, cap, rfl, hst, hb2⟩)
    have hR2 := hR1.step hbm hbr hne hbr0 (MildB.below hb2)
    have hra2 := hra1.below hb2
    cases hcut : cutF 32 x.data.toList with
    | nil => exact absurd hcut (cutF_ne _ _)
    | cons f0 ls =>
    rw [hcut] at hst
    have hrf : readF x.data.toList = readL (f0 :: ls) := by unfold readF; rw [hcut]
    have hc0 : w2.cell? ⟨g, 0, none⟩ = some (.string ⟨f0.toArray⟩) := hst.cell (j := 0) (by simp)
    have c4 := hR2.rb.b4.cell
    have c5 := hR2.rb.b5.cell
    have c8' := hR2.rb.b8.cell
    have hmx : Tryd.prog.follows .mixedOrders = true := by kernel_rfl
    have hll : (f0 :: ls).length = ls.length + 1 := rfl
    rw [hll]
    have hl0 : (0 : Int) < ((ls.length : Nat) : Int) + 1 := by omega
    have hR2d := hR2.step hbm hbr hne hbr0 (MildB.drew w2)
    have c6' := hR2.rb.b6.cell
    have f6' := hR2.rb.b6.frozen
    have c7' := hR2.rb.b7.cell
    have f7' := hR2.rb.b7.frozen
    rename_i K hK
    by_cases hkn : f0 = [108, 105, 109, 105, 116] ∨ f0 = [115, 116, 97, 116, 101] ∨ f0 = [111, 110] ∨ f0 = [116, 105, 109, 101, 111, 117, 116] ∨ f0 = [102, 117, 108, 108]
    case neg =>
      have hlk := map_miss (P := Tryd.prog) (mt := 52) Tryd.underlying52 Tryd.underlying9 w2.drew bm _ _ hR2.rb.mp ⟨f0.toArray⟩ .nilFunc (Tryd.zeroValue81 _) (by
        unfold mapP
        rw [find_next _ _ _ _ _ _ (fun e => hkn (.inl (by simpa using congrArg (fun b : ByteArray => b.data.toList) e))), find_next _ _ _ _ _ _ (fun e => hkn (.inr (.inl (by simpa using congrArg (fun b : ByteArray => b.data.toList) e)))), find_next _ _ _ _ _ _ (fun e => hkn (.inr (.inr (.inl (by simpa using congrArg (fun b : ByteArray => b.data.toList) e))))), find_next _ _ _ _ _ _ (fun e => hkn (.inr (.inr (.inr (.inl (by simpa using congrArg (fun b : ByteArray => b.data.toList) e)))))), find_next _ _ _ _ _ _ (fun e => hkn (.inr (.inr (.inr (.inr (by simpa using congrArg (fun b : ByteArray => b.data.toList) e))))))]
        rfl)
      have hbad : (readF x.data.toList).2 = false := by rw [hrf]; exact readL_strange hkn
      have hend : PrgEnd ((pre ++ [(⟨x, hx⟩ : Ln)]).map toL) 2 ((np : Int) + 1) := by
        have := hsp.bad hsk hbad
        rw [hml] at this
        rw [hmap]
        exact this
      obtain ⟨o1, o2, o3, o4⟩ := hR2.out (by omega) 2 ((np : Int) + 1)
      have hrest : K { tmps := #[.string t, .map (some bm), .int .i64 2, undef, .pointer (some ⟨w.heap.size, 0, none⟩), .pointer (some ⟨w.heap.size + 1, 0, none⟩), .pointer (some ⟨w.heap.size + 1 + 1, 0, none⟩), .pointer (some ⟨w.heap.size + 1 + 1 + 1, 0, none⟩), .pointer (some ⟨w.heap.size + 1 + 1 + 1 + 1, 0, none⟩), .string x, .slice (some ⟨g, 0, none⟩) (ls.length + 1) cap, .nilFunc, .bool false, undef, .string t, .func (.func 59) #[] #[.pointer (some ⟨w.heap.size + 1 + 1 + 1 + 1 + 1 + 1, 0, none⟩), .pointer (some ⟨w.heap.size + 1 + 1 + 1 + 1 + 1, 0, none⟩), .pointer (some ⟨w.heap.size + 1 + 1 + 1 + 1 + 1 + 1 + 1, 0, none⟩)], .string x, .int .i64 np, .int .i64 (np + 1), .string x, .bool false, .bool false, .string x, .int .u8 x[0].toNat, .bool false, .bool false, .string x, .slice (some ⟨g, 0, none⟩) (ls.length + 1) cap, .tuple #[.nilFunc, .bool false], .map (some bm), .slice (some ⟨g, 0, none⟩) (ls.length + 1) cap, .pointer (some ⟨g, 0, none⟩), .string ⟨f0.toArray⟩, .tuple #[.nilFunc, .bool false], .nilFunc, .bool false, undef, undef, undef, undef, undef, undef, undef, undef, undef, undef, undef, undef, undef, undef], defers := [] } w2.drew := by
        refine hK _ _ ?_
        gi_wp2
        gi_region_with_o fail
        all_goals gi_wp2
        all_goals exact ⟨⟨o1.size, o1.same⟩, ⟨rfl, 2, (np : Int) + 1, hend, o2, o3⟩, o4.os, o4.tape, o4.output, o4.size, o4.block⟩
      gi_region_with_o fail
      all_goals exact hrest
    case pos =>
      obtain ⟨hg0, hg1, hg2, hg3⟩ := own_form hst
      obtain ⟨o1, hif, ho1⟩ : ∃ o1, (if cap = 1 then some (⟨g, 0, none⟩ : Addr) else some ⟨g, 1, none⟩) = some ⟨g, o1, none⟩ ∧ (o1 = 1 ∨ ls = []) := by
        by_cases hc1 : cap = 1
        · refine ⟨0, by rw [if_pos hc1], .inr ?_⟩
          apply List.eq_nil_of_length_eq_zero
          simp at hg2
          omega
        · exact ⟨1, by rw [if_neg hc1], .inl rfl⟩
      have hF3 : FldAt ((w2.alloc (.cells #[.slice (some ⟨g, o1, none⟩) ls.length (cap - 1), .bool false] 84)).drew) w2.heap.size ls false g o1 (cap - 1) := by
        refine ⟨World.alloc_heap_new w2 _, fun j hj => ?_, by omega, by simp at hg2; omega, by unfold maxLen at hg3; omega⟩
        rcases ho1 with rfl | rfl
        · have h1 := hst.cell (j := 1 + j) (by simp; omega)
          have h2 : (w2.alloc (.cells #[.slice (some ⟨g, 1, none⟩) ls.length (cap - 1), .bool false] 84)).cell? ⟨g, 1 + j, none⟩ = w2.cell? ⟨g, 1 + j, none⟩ := World.cell?_of_block (Below.heap_alloc w2 _ g hg1)
          have h3 : (f0 :: ls)[1 + j]'(by simp; omega) = ls[j] := by simp [Nat.add_comm 1 j]
          rw [h3] at h1
          exact h2.trans h1
        · exact absurd hj (Nat.not_lt_zero _)
      have hra3 : PrAt (w.heap.size + 8) br ((w2.alloc (.cells #[.slice (some ⟨g, o1, none⟩) ls.length (cap - 1), .bool false] 84)).drew) sv cv p := hra2.below ⟨rfl, rfl, rfl, by simp [World.drew], fun k hk => Below.heap_alloc w2 _ k hk⟩
      have hR3 := (hR2.step hbm hbr hne hbr0 (MildB.alloc w2 (.cells #[.slice (some ⟨g, o1, none⟩) ls.length (cap - 1), .bool false] 84))).step hbm hbr hne hbr0 (MildB.drew _)
      have hb3 : w.heap.size + 8 ≤ w2.heap.size := hR2.size
      have hsz3 : w.heap.size + 8 ≤ ((w2.alloc (.cells #[.slice (some ⟨g, o1, none⟩) ls.length (cap - 1), .bool false] 84)).drew).heap.size := hR3.size
      have hl1 : (1 : Int) ≤ ((ls.length : Nat) : Int) + 1 := by omega
      have hbb : ∃ c t f, ((w2.alloc (.cells #[.slice (some ⟨g, o1, none⟩) ls.length (cap - 1), .bool false] 84)).drew).heap[w2.heap.size]? = some (.cells c t f) := ⟨_, _, _, World.alloc_heap_new w2 _⟩
      obtain ⟨ki, fn, hent, hfi, hcall⟩ := known_call (f0 := f0) (n := x.size) hsp.1 hra3 hF3 hb3 (by omega) (by omega) (by
        have h1 := cut_heads hcut
        have h2 : x.data.toList.length = x.size := by simp
        omega) hkn
      have hlk := map_get (P := Tryd.prog) (mt := 52) Tryd.underlying52 Tryd.underlying9 w2.drew bm _ _ hR2.rb.mp ⟨f0.toArray⟩ ki (.func (.func fn) #[.pointer (some ⟨br, 0, none⟩)] #[]) hfi
      clear hkn hfi
      have hrest : K { tmps := #[.string t, .map (some bm), .int .i64 2, undef, .pointer (some ⟨w.heap.size, 0, none⟩), .pointer (some ⟨w.heap.size + 1, 0, none⟩), .pointer (some ⟨w.heap.size + 1 + 1, 0, none⟩), .pointer (some ⟨w.heap.size + 1 + 1 + 1, 0, none⟩), .pointer (some ⟨w.heap.size + 1 + 1 + 1 + 1, 0, none⟩), .string x, .slice (some ⟨g, 0, none⟩) (ls.length + 1) cap, .func (.func fn) #[.pointer (some ⟨br, 0, none⟩)] #[], .bool true, undef, .string t, .func (.func 59) #[] #[.pointer (some ⟨w.heap.size + 1 + 1 + 1 + 1 + 1 + 1, 0, none⟩), .pointer (some ⟨w.heap.size + 1 + 1 + 1 + 1 + 1, 0, none⟩), .pointer (some ⟨w.heap.size + 1 + 1 + 1 + 1 + 1 + 1 + 1, 0, none⟩)], .string x, .int .i64 np, .int .i64 (np + 1), .string x, .bool false, .bool false, .string x, .int .u8 x[0].toNat, .bool false, .bool false, .string x, .slice (some ⟨g, 0, none⟩) (ls.length + 1) cap, .tuple #[.func (.func fn) #[.pointer (some ⟨br, 0, none⟩)] #[], .bool true], .map (some bm), .slice (some ⟨g, 0, none⟩) (ls.length + 1) cap, .pointer (some ⟨g, 0, none⟩), .string ⟨f0.toArray⟩, .tuple #[.func (.func fn) #[.pointer (some ⟨br, 0, none⟩)] #[], .bool true], .func (.func fn) #[.pointer (some ⟨br, 0, none⟩)] #[], .bool true, undef, undef, undef, undef, undef, undef, undef, undef, undef, undef, undef, undef, undef, undef], defers := [] } w2.drew := by
        refine hK _ _ ?_
        gi_wp2_with fail
        refine ⟨trivial, (CallsIn.inRound l (callsIn_wide.2 hcall)).mono ?_⟩
        intro e w4 hline
        obtain ⟨cc, rfl, hmild, hcode⟩ := hline.split
        have hR4 := hR3.step hbm hbr hne hbr0 hmild
        rcases hcode with ⟨rfl, q1, q2, q3, sv4, cv4, hr4⟩ | ⟨hcc, hcode⟩
        · rw [← hrf] at q1 q2 q3 hr4
          have HP : Hid _ := hsp.one hsk q1 q2 q3
          clear hline hcall q1 q2 q3 hrf
          gi_wp2
          exact ⟨hR4.keep, fun k hk => hR4.kp k (by simp at hk; omega) (by simp at hk; omega), ⟨by rw [hlen2]; exact hR4.rb, sv4, cv4, _, hr4, by rw [hmap]; exact HP.out⟩, hR4.low, hR4.size⟩
        · have hend : PrgEnd ((pre ++ [(⟨x, hx⟩ : Ln)]).map toL) cc ((np : Int) + 1) := by
            rw [hmap]
            rw [← hrf] at hcode
            rcases hcode with ⟨hy, rfl⟩ | ⟨hy, hy2, rfl⟩ | ⟨hy, hy2, hy3, rfl⟩
            · have := hsp.bad hsk hy
              rw [hml] at this
              exact this
            · have := hsp.order hsk hy hy2
              rw [hml] at this
              exact this
            · have := hsp.many hsk hy hy2 hy3
              rw [hml] at this
              exact this
          obtain ⟨o1', o2, o3, o4⟩ := hR4.out (by omega) cc ((np : Int) + 1)
          have e6 := hR4.rb.b6.cell
          have g6 := hR4.rb.b6.frozen
          have e7 := hR4.rb.b7.cell
          have g7 := hR4.rb.b7.frozen
          have e8 := hR4.rb.b8.cell
          have hcc' : (cc != 0) = true := by simpa using hcc
          clear hline hcall hcode hcc hrf
          gi_wp2
          gi_region_with_o fail
          all_goals gi_wp2
          all_goals exact ⟨⟨o1'.size, o1'.same⟩, ⟨rfl, cc, (np : Int) + 1, hend, o2, o3⟩, o4.os, o4.tape, o4.output, o4.size, o4.block⟩
      gi_region_with_o fail
      all_goals exact hrest
  case done =>
    rintro D ys W hD hys ⟨⟨hB, sv, cv, p, hra, hsp⟩, hlw, _⟩ hK
    have c6 := hB.b6.cell
    have c7 := hB.b7.cell
    have f6 := hB.b6.frozen
    have f7 := hB.b7.frozen
    gi_wp2
    have hK2 := (KeepsOthers.setCell (W.setCell ⟨w.heap.size + 1 + 1, 0, none⟩ (.int .i64 0)) ⟨w.heap.size + 1 + 1 + 1, 0, none⟩ (.int .i64 0)).same D _ ((KeepsOthers.setCell W ⟨w.heap.size + 1 + 1, 0, none⟩ (.int .i64 0)).same D _ hK rfl) rfl
    have g6 := (hB.b6.set (.int .i64 0)).other (B' := w.heap.size + 1 + 1 + 1) (by omega) (.int .i64 0)
    have g7 := (hB.b7.other (B' := w.heap.size + 1 + 1) (by omega) (.int .i64 0)).set (.int .i64 0)
    have q6 := cell_kept g6.cell (grownBy_putObj' _ D (.deferred none)) (fun r e => by cases e; exact ⟨_, hK2, rfl⟩)
    have q7 := cell_kept g7.cell (grownBy_putObj' _ D (.deferred none)) (fun r e => by cases e; exact ⟨_, hK2, rfl⟩)
    refine ⟨by simp, .inl ⟨_, _, rfl, run_takeDeferred hK2, ?_⟩⟩
    refine ⟨.tuple #[.int .i64 0, .int .i64 0], by simp [results, Tryd.results22, go_sem, q6, q7], ?_, .inl ⟨sv, cv, p, rfl, ?_, hsp.1, ?_⟩⟩
    · exact ((hlw.setCell (p := ⟨w.heap.size + 1 + 1, 0, none⟩) (by simp; omega) _).setCell (p := ⟨w.heap.size + 1 + 1 + 1, 0, none⟩) (by simp; omega) _).trans (belowK_b (w := W0) (by omega) _ D _ _ hD hK2 rfl rfl)
    · have := hsp.2 []
      rw [List.append_nil, hys] at this
      exact ⟨_, this⟩
    · refine hra.of ?_ (fun g c tt hg hc => ?_)
      · rw [World.putObj_heap_other (by omega), Below.heap_setCell _ _ _ _ (by show br ≠ w.heap.size + 1 + 1 + 1; omega), Below.heap_setCell _ _ _ _ (by show br ≠ w.heap.size + 1 + 1; omega)]
      · rw [World.putObj_heap_other (fun e => by subst e; rw [hK] at hc; cases hc), Below.heap_setCell _ _ _ _ (by show g ≠ w.heap.size + 1 + 1 + 1; omega), Below.heap_setCell _ _ _ _ (by show g ≠ w.heap.size + 1 + 1; omega)]
  case stop =>
    rintro D c pre W hD ⟨suf, hsuf⟩ ⟨⟨rfl, code, line, hend, h6, h7⟩, hlw⟩ hK
    have q6 := cell_kept h6.cell (grownBy_putObj' _ D (.deferred none)) (fun r e => by cases e; exact ⟨_, hK, rfl⟩)
    have q7 := cell_kept h7.cell (grownBy_putObj' _ D (.deferred none)) (fun r e => by cases e; exact ⟨_, hK, rfl⟩)
    gi_wp2
    refine ⟨by simp, .inl ⟨_, _, rfl, run_takeDeferred hK, ?_⟩⟩
    refine ⟨.tuple #[.int .i64 code, .int .i64 line], by simp [results, Tryd.results22, go_sem, q6, q7], ?_, .inr ⟨code, line, rfl, hend.1, ?_⟩⟩
    · exact hlw.trans (belowK_b (w := W0) (by omega) W D _ _ hD hK rfl rfl)
    · rw [← hsuf]
      exact hend.2 suf
end Go.Proofs.YtipndbhedaknnaaDoor
