import Derived.Test.YtgbdlgogccgciaaGreatDoorPfC
namespace Go.Proofs.YtgbdlgogccgciaaGreatDoor
open Go.RowKit

/-- spec.ParseERE answers as the table says. -/
theorem specParse_ok (t : ByteArray) (w : World) {r : RuleD} {c a : Int} (h : ParseR t.data.toList r c a) : Calls Tryz.prog 4 #[.string t] w (ParA w r c a) := by
  have hlen : t.data.toList.length = t.size := Array.length_toList
  cases h with
  | long h => exact specParse_long t w (by omega)
  | lex h hl hc => exact specParse_lex t w (by omega) hl hc
  | fault h hl hk hj hf => exact specParse_fault t w (by omega) hl hk hj hf
  | op h hl hf ho => rw [hlen]; exact specParse_op t w (by omega) hl hf ho
  | opn h hl hf ho hd => exact specParse_opn t w (by omega) hl hf ho hd
  | heavy h hl hf ho hd hR hw => exact (specParse_rule t w (by omega) hl hf ho hd hR).mono fun e w' h => h.1 hw
  | good h hl hf ho hd hR hw => exact (specParse_rule t w (by omega) hl hf ho hd hR).mono fun e w' h => h.2 (by omega)
end Go.Proofs.YtgbdlgogccgciaaGreatDoor
namespace Go.Proofs.YtgbdlgogccgciaaGreatDoor
open Go.RowKit
attribute [local go_sem ↓] Go.wp_at_zero Go.wp_at_succ

/- MARKS: the complement, the union, the ranges. -/
set_option maxRecDepth 100000 in
theorem marks_index (f : Nat → Bool) (k : Nat) (hk : k < 256) (w : World) : (Instr.index 141 (.agg (marksArr f)) (.int .i64 (k : Int))).run Tryz.prog w = .ok (.bool (f k)) w := by
  have h1 : (0 : Int) ≤ (k : Int) ∧ (k : Int) < 256 := by omega
  have hm := marksArr_get f k hk
  obtain ⟨iB, hjB, hyB0, hyB1, hyB2⟩ := info_parts Tryz.infoBoolP
  simp [Instr.index, run_underlying Tryz.underlying141, asIntOf, go_sem, h1, hm, hk]
set_option maxRecDepth 100000 in
set_option maxHeartbeats 1000000 in
theorem complement_ok (f : Nat → Bool) (w : World) :
    Calls Tryz.prog 72 #[.agg (marksArr f)] w fun e w' => e = .returned (.agg (marksArr (notB f))) ∧ Below w.heap.size w w' := by
  have hzv := (zero_of_info Tryz.zeroMarks).1
  have hzi : Hid _ := (zero_of_info Tryz.zeroMarks).2
  go_enter Tryz.func72, Tryz.ntmps72
  go_wp2_with (refine wpList_load_row rfl 141 (.tmp 1) rfl w.heap.size rfl 141 (marksArr f) (0, 0) _ (by first | exact heap_alloc_new _ _ | (rw [heap_alloc2_old])) Tryz.underlying141 rfl (by rw [marksArr_size]; exact hzi.out) ?_)
  go_loopw [6] (fun i wr => ∃ k : Nat, k ≤ 256 ∧ i = .int .i64 k ∧ Below w.heap.size w wr ∧ wr.heap[w.heap.size]? = some (.cells (marksArr (fun x => if x < k then !(f x) else f x)) 141 (0, 0)) ∧ wr.heap[w.heap.size + 1]? = some (.cells (marksArr fun _ => false) 141 (0, 0)) ∧ w.heap.size + 1 < wr.heap.size)
    (fun i _ => 256 - (intOf i).toNat)
  case atStart => exact ⟨0, by omega, rfl, ((Below.refl _ _).alloc (Nat.le_refl _) _).alloc (by simp) _, by rw [heap_alloc2_old]; simp, heap_alloc2_new _ _ _, by simp⟩
  case round =>
    obtain ⟨k, hk, rfl, hb, hr0, hr1, hsz⟩ := hrel
    by_cases hlt : k < 256
    · have c0 : wr.cell? ⟨w.heap.size, k, none⟩ = some (.bool (f k)) := by rw [cell_of_row _ _ _ _ _ _ hr0, marksArr_get _ _ hlt, if_neg (Nat.lt_irrefl _)]
      have f0 : wr.frozen? ⟨w.heap.size, k, none⟩ = false := frozen_of_row _ _ _ _ _ hr0
      have HX : Hid ((wr.setCell ⟨w.heap.size, k, none⟩ (.bool (!(f k)))).heap[w.heap.size]? = some (.cells (marksArr (fun x => if x < k + 1 then !(f x) else f x)) 141 (0, 0))) := by
        show _ = _
        rw [heap_setCell_same _ _ _ _ _ _ hr0, marksArr_put]
        congr 2
        refine marksArr_ext fun c _ => ?_
        by_cases e : c = k
        · subst e; simp
        · by_cases e2 : c < k
          · simp [e, e2, show c < k + 1 by omega]
          · simp [e, e2, show ¬c < k + 1 by omega]
      have H0 := hid hr0
      have H1 := hid hr1
      have hix := marks_index f k hlt
      clear hr0 hr1
      generalize f k = b at *
      go_wp2
      go_roundw
      case rel => exact ⟨k + 1, by omega, by go_num, hb.setCell (by simp) _, HX.out, by rw [heap_setCell_other _ _ _ _ (by simp)]; exact H1.out, by simpa [World.setCell] using hsz⟩
      case measure => simp [intOf]; omega
    · have hke : k = 256 := by omega
      subst hke
      have hnf : marksArr (fun x => if x < 256 then !(f x) else f x) = marksArr (notB f) := marksArr_ext fun c hc => by simp [notB, hc]
      rw [hnf] at hr0
      have H0 := hid hr0
      have H1 := hid hr1
      clear hr0 hr1 hnf
      go_wp2_with (first | (refine wpList_load_row rfl 141 (.tmp 1) rfl w.heap.size rfl 141 _ (0, 0) _ H0.out Tryz.underlying141 rfl (by rw [marksArr_size]; exact hzi.out) ?_) | (refine wpList_store_row rfl 141 (.tmp 2) _ rfl (w.heap.size + 1) _ rfl rfl 141 _ H1.out (by rw [marksArr_size]; exact hzi.out) (by rw [marksArr_size, marksArr_size]) (marksArr_one _) ?_))
      exact bodyPost_ret (v := .agg (marksArr (notB f))) (results_cell_row Tryz.results72 _ _ (w.heap.size + 1) 141 _ (0, 0) _ rfl (setRow_heap _ _ _ _ _ _ H1.out) Tryz.underlying141 rfl (by rw [marksArr_size]; exact hzi.out)) rfl ⟨rfl, Below.setRow hb (by omega) _⟩
set_option maxRecDepth 100000 in
set_option maxHeartbeats 1000000 in
theorem joined_ok (f g : Nat → Bool) (w : World) :
    Calls Tryz.prog 74 #[.agg (marksArr f), .agg (marksArr g)] w fun e w' => e = .returned (.agg (marksArr (orB f g))) ∧ Below w.heap.size w w' := by
  have hzv := (zero_of_info Tryz.zeroMarks).1
  have hzi : Hid _ := (zero_of_info Tryz.zeroMarks).2
  go_enter Tryz.func74, Tryz.ntmps74
  obtain ⟨W3, hW3⟩ : ∃ W3, W3 = ((w.alloc (.cells (marksArr f) 141)).alloc (.cells (marksArr g) 141)).alloc (.cells (marksArr fun _ => false) 141) := ⟨_, rfl⟩
  have q0 : W3.heap[w.heap.size]? = some (.cells (marksArr f) 141 (0, 0)) := by rw [hW3]; exact row_alloc (row_alloc (heap_alloc_new _ _))
  have q1 : W3.heap[w.heap.size + 1]? = some (.cells (marksArr g) 141 (0, 0)) := by
    rw [hW3]
    have := heap_alloc_new (w.alloc (.cells (marksArr f) 141)) (.cells (marksArr g) 141)
    rw [show (w.alloc (.cells (marksArr f) 141)).heap.size = w.heap.size + 1 by simp] at this
    exact row_alloc this
  have q2 : W3.heap[w.heap.size + 2]? = some (.cells (marksArr fun _ => false) 141 (0, 0)) := by
    rw [hW3]
    have := heap_alloc_new ((w.alloc (.cells (marksArr f) 141)).alloc (.cells (marksArr g) 141)) (.cells (marksArr fun _ => false) 141)
    rw [show ((w.alloc (.cells (marksArr f) 141)).alloc (.cells (marksArr g) 141)).heap.size = w.heap.size + 2 by simp] at this
    exact this
  have qb : Below w.heap.size w W3 := by rw [hW3]; exact (((Below.refl _ _).alloc (Nat.le_refl _) _).alloc (by simp) _).alloc (by simp; omega) _
  go_wp2_with (refine wpList_load_row rfl 141 (.tmp 3) rfl (w.heap.size + 1) rfl 141 (marksArr g) (0, 0) _ (by first | exact q1 | (rw [hW3] at q1; exact q1)) Tryz.underlying141 rfl (by rw [marksArr_size]; exact hzi.out) ?_)
  go_loopw [8] (fun i wr => ∃ k : Nat, k ≤ 256 ∧ i = .int .i64 k ∧ Below w.heap.size w wr ∧ wr.heap[w.heap.size]? = some (.cells (marksArr (fun x => f x || (decide (x < k) && g x))) 141 (0, 0)) ∧ wr.heap[w.heap.size + 2]? = some (.cells (marksArr fun _ => false) 141 (0, 0)))
    (fun i _ => 256 - (intOf i).toNat)
  case atStart =>
    rw [hW3] at q0 q2 qb
    exact ⟨0, by omega, rfl, qb, by simpa using q0, q2⟩
  case round =>
    clear hW3 q0 q1 q2 qb
    obtain ⟨k, hk, rfl, hb, hr0, hr1⟩ := hrel
    by_cases hlt : k < 256
    · have c0 : wr.cell? ⟨w.heap.size, k, none⟩ = some (.bool (f k)) := by rw [cell_of_row _ _ _ _ _ _ hr0, marksArr_get _ _ hlt]; simp
      have f0 : wr.frozen? ⟨w.heap.size, k, none⟩ = false := frozen_of_row _ _ _ _ _ hr0
      have HX : ∀ b, b = (f k || g k) → (wr.setCell ⟨w.heap.size, k, none⟩ (.bool b)).heap[w.heap.size]? = some (.cells (marksArr (fun x => f x || (decide (x < k + 1) && g x))) 141 (0, 0)) := by
        rintro b rfl
        rw [heap_setCell_same _ _ _ _ _ _ hr0, marksArr_put]
        congr 2
        refine marksArr_ext fun c _ => ?_
        by_cases e : c = k
        · subst e; simp
        · rw [if_neg e, decide_eq_decide.2 (show c < k ↔ c < k + 1 by omega)]
      have HXH := hid HX
      have H1 := hid hr1
      have hix := marks_index g k hlt
      clear hr0 hr1 HX
      cases hfk : f k with
      | true =>
        rw [hfk] at c0
        generalize g k = b at *
        go_wp2
        go_roundw
        case rel => exact ⟨k + 1, by omega, by go_num, hb.setCell (by simp) _, HXH.out _ (by simp [hfk]), by rw [heap_setCell_other _ _ _ _ (by simp)]; exact H1.out⟩
        case measure => simp [intOf]; omega
      | false =>
        rw [hfk] at c0
        generalize g k = b at *
        go_wp2
        go_roundw
        case rel => exact ⟨k + 1, by omega, by go_num, hb.setCell (by simp) _, HXH.out _ (by simp [hfk]), by rw [heap_setCell_other _ _ _ _ (by simp)]; exact H1.out⟩
        case measure => simp [intOf]; omega
    · have hke : k = 256 := by omega
      subst hke
      have hnf : marksArr (fun x => f x || (decide (x < 256) && g x)) = marksArr (orB f g) := marksArr_ext fun c hc => by simp [orB, hc]
      rw [hnf] at hr0
      have H0 := hid hr0
      have H1 := hid hr1
      clear hr0 hr1 hnf
      go_wp2_with (first | (refine wpList_load_row rfl 141 (.tmp 2) rfl w.heap.size rfl 141 _ (0, 0) _ H0.out Tryz.underlying141 rfl (by rw [marksArr_size]; exact hzi.out) ?_) | (refine wpList_store_row rfl 141 (.tmp 4) _ rfl (w.heap.size + 2) _ rfl rfl 141 _ H1.out (by rw [marksArr_size]; exact hzi.out) (by rw [marksArr_size, marksArr_size]) (marksArr_one _) ?_))
      exact bodyPost_ret (v := .agg (marksArr (orB f g))) (results_cell_row Tryz.results74 _ _ (w.heap.size + 2) 141 _ (0, 0) _ rfl (setRow_heap _ _ _ _ _ _ H1.out) Tryz.underlying141 rfl (by rw [marksArr_size]; exact hzi.out)) rfl ⟨rfl, Below.setRow hb (by omega) _⟩
end Go.Proofs.YtgbdlgogccgciaaGreatDoor
namespace Go.Proofs.YtgbdlgogccgciaaGreatDoor
open Go.RowKit
attribute [local go_sem ↓] Go.wp_at_zero Go.wp_at_succ

set_option maxRecDepth 100000 in
set_option maxHeartbeats 2000000 in
theorem ranges_ok (f : Nat → Bool) (w : World) :
    Calls Tryz.prog 82 #[.agg (marksArr f)] w fun e w' => ∃ v, e = .returned v ∧ RngO w.heap.size w' v (rngF f 256) ∧ Below w.heap.size w w' := by
  obtain ⟨iR, hjR, hyR0, hyR1, hyR2⟩ := info_parts infoRngP
  have hzi : Hid _ := (zero_of_info Tryz.zeroMarks).2
  go_enter Tryz.func82, Tryz.ntmps82
  go_wp2_with (refine wpList_load_row rfl 141 (.tmp 1) rfl w.heap.size rfl 141 (marksArr f) (0, 0) _ (by first | exact heap_alloc_new _ _ | exact row_alloc (heap_alloc_new _ _)) Tryz.underlying141 rfl (by rw [marksArr_size]; exact hzi.out) ?_)
  go_loopw [3, 9] (fun v i wr => ∃ c : Nat, c ≤ 256 ∧ i = .int .i64 (c : Int) ∧ Below w.heap.size w wr ∧ Hid (RngO w.heap.size wr v (rngF f c))) (fun _ i _ => 256 - (intOf i).toNat)
  case atStart => exact ⟨0, by omega, rfl, ((Below.refl _ _).alloc (Nat.le_refl _) _).alloc (by simp) _, ownsRow_newZ _ _ 2 _ _ (by omega) (by simp)⟩
  case round =>
    obtain ⟨c, hc, rfl, hb, HO⟩ := hrel
    by_cases hlt : c < 256
    case neg =>
      have hce : c = 256 := by omega
      subst hce
      go_wp2
      go_ret
      exact ⟨_, rfl, HO.out, hb⟩
    have hix := marks_index f c hlt
    have hs := hb.size
    have hlen := rngF_len f c
    have hok := (rngF_ok f c (by omega)).2
    obtain ⟨nl, hnl⟩ : ∃ nl, nl = (rngF f c).length := ⟨_, rfl⟩
    have hvf : ∃ ao cp, u3 = .slice ao nl cp := by
      rcases HO.out.2 with ⟨h, h0⟩ | ⟨g, cap, _, h, _⟩
      · exact ⟨none, 0, by rw [h, hnl, h0]⟩
      · exact ⟨_, _, by rw [h, hnl]⟩
    obtain ⟨ao, cp0, hv0⟩ := hvf
    subst hv0
    have hnl2 : nl ≤ 256 := by omega
    cases hf : f c with
    | false =>
      rw [hf] at hix
      have HN := hid (rngF_no hf)
      clear hok hlen hnl
      go_wp2
      go_roundw
      case rel => exact ⟨c + 1, by omega, by go_num, hb, by rw [HN.out]; exact HO⟩
      case measure => simp [intOf]; omega
    | true =>
      rw [hf] at hix
      by_cases h2 : 0 < c ∧ f (c - 1) = true
      · obtain ⟨h3, h4⟩ := h2
        obtain ⟨l, a, hl⟩ := rngF_last f (c - 1) h4
        rw [show c - 1 + 1 = c by omega] at hl
        have HN := hid (rngF_on hf ⟨h3, h4⟩ hl)
        have HO2 := HO.out
        rw [hl] at HO2
        have hll : (l ++ [(a, ((c - 1 : Nat) : Int))]).length = l.length + 1 := by simp
        have hnl3 : nl = l.length + 1 := by rw [hnl, hl, hll]
        subst hnl3
        unfold RngO at HO2
        rw [hll] at HO2
        obtain ⟨g, cap, hv⟩ := own_shape HO2
        have hao : ao = some ⟨g, 0, none⟩ ∧ cp0 = cap := by cases hv; exact ⟨rfl, rfl⟩
        obtain ⟨rfl, rfl⟩ := hao
        have hj : l.length * 2 + 1 < (l.length + 1) * 2 := by omega
        have cu : wr.cell? ⟨g, l.length * 2 + 1, none⟩ = some (.int .i64 ((c : Int) - 1)) := by
          rw [HO2.cellAt _ hj]
          have h9 := (rgC_get (l ++ [(a, ((c - 1 : Nat) : Int))]) l.length (by simp)).2
          rw [h9]
          simp [List.getD]
          omega
        have fu := HO2.frozenAt (l.length * 2 + 1)
        have HP : Hid (RngO w.heap.size (wr.setCell ⟨g, l.length * 2 + 1, none⟩ (.int .i64 (c : Int))) (.slice (some ⟨g, 0, none⟩) (l.length + 1) cp0) (rngF f (c + 1))) := by
          show RngO _ _ _ _
          unfold RngO
          rw [HN.out, show (l ++ [(a, (c : Int))]).length = l.length + 1 by simp, rgC_hi l a ((c - 1 : Nat) : Int) (c : Int)]
          exact (HO2.stored (l.length * 2 + 1) (.int .i64 (c : Int))).1
        have hgb : w.heap.size ≤ g := (HO2.lt g rfl).1
        have i5 : (0 : Int) ≤ ((l.length + 1 : Nat) : Int) - 1 := by omega
        have i6 : (((l.length + 1 : Nat) : Int) - 1).toNat = l.length := by omega
        have i7 : ((l.length + 1 : Nat) : Int) - 1 < ((l.length + 1 : Nat) : Int) := by omega
        generalize hL : l.length = L at *
        clear HO2 hl hll HN hlen HO hok hnl hv
        go_wp2
        go_roundw
        case rel => exact ⟨c + 1, by omega, by go_num, hb.setCell (by exact hgb) _, HP⟩
        case measure => simp [intOf]; omega
      · have HN := hid (rngF_new hf h2)
        have HOX : Hid (wr.ownsRow w.heap.size 99 2 (.slice ao nl cp0) nl (rgC (rngF f c))) := by rw [hnl]; rw [hnl] at HO; exact HO.out
        have HNL := hid hnl
        rcases Nat.eq_zero_or_pos nl with hz | hz
        · subst hz
          clear hnl hlen hok h2 HO
          go_wp2_with (at_builtin; refine wpList_append_szW rfl (.tmp 16) (.tmp 20) 65 rfl wr #[.int .i64 (c : Int), .int .i64 (c : Int)] 99 rfl wr.heap.size rfl w.heap.size iR _ 2 16 Tryz.underlying65 hjR hyR0 hyR1 hyR2 rfl (by omega) _ _ _ rfl HOX.out rfl rfl (by simp [Value.oneCell']) (by omega) (by omega) hs ?_; intro g' cap' w4 own4 grow4 at4)
          have HP : Hid (RngO w.heap.size w4 (.slice (some ⟨g', 0, none⟩) (0 + 1) cap') (rngF f (c + 1))) := by
            show RngO _ _ _ _
            unfold RngO
            rw [HN.out, rgC_app, List.length_append, ← HNL.out]
            exact own4
          have hb4 : Below w.heap.size w w4 := hb.grown grow4 hs (fun k hk => (ownsRow_blk HOX.out hk).1)
          clear own4 grow4 at4
          go_wp2
          go_roundw
          case rel => exact ⟨c + 1, by omega, by go_num, hb4, HP⟩
          case measure => simp [intOf]; omega
        · obtain ⟨m, rfl⟩ : ∃ m, nl = m + 1 := ⟨nl - 1, by omega⟩
          obtain ⟨g, cap, hv⟩ := own_shape HOX.out
          have hao : ao = some ⟨g, 0, none⟩ ∧ cp0 = cap := by cases hv; exact ⟨rfl, rfl⟩
          obtain ⟨rfl, rfl⟩ := hao
          have hne : rngF f c ≠ [] := by intro e; rw [e] at hnl; simp at hnl
          have hend := hok hne
          obtain ⟨E, cu, hE⟩ : ∃ E : Int, wr.cell? ⟨g, m * 2 + 1, none⟩ = some (.int .i64 E) ∧ E + 1 < c := by
            refine ⟨rgEnd (rngF f c), ?_, ?_⟩
            · rw [HOX.out.cellAt _ (by omega), (rgC_get (rngF f c) m (by omega)).2]
              congr 2
              unfold rgEnd
              rw [List.getLast?_eq_getElem?, show (rngF f c).length - 1 = m by omega, List.getD_eq_getElem?_getD, List.getElem?_eq_getElem (by omega)]
              rfl
            · rcases hend.2 with h | h
              · exact absurd h h2
              · omega
          have hEb : (E == (c : Int) - 1) = false := by simp; omega
          have i5 : (0 : Int) ≤ ((m + 1 : Nat) : Int) - 1 := by omega
          have i6 : (((m + 1 : Nat) : Int) - 1).toNat = m := by omega
          have i7 : ((m + 1 : Nat) : Int) - 1 < ((m + 1 : Nat) : Int) := by omega
          clear hnl hlen hok h2 HO hne hend hE hv
          go_wp2_with (at_builtin; refine wpList_append_szW rfl (.tmp 16) (.tmp 20) 65 rfl wr #[.int .i64 (c : Int), .int .i64 (c : Int)] 99 rfl wr.heap.size rfl w.heap.size iR _ 2 16 Tryz.underlying65 hjR hyR0 hyR1 hyR2 rfl (by omega) _ _ _ rfl HOX.out rfl rfl (by simp [Value.oneCell']) (by omega) (by omega) hs ?_; intro g' cap' w4 own4 grow4 at4)
          have HP : Hid (RngO w.heap.size w4 (.slice (some ⟨g', 0, none⟩) (m + 1 + 1) cap') (rngF f (c + 1))) := by
            show RngO _ _ _ _
            unfold RngO
            rw [HN.out, rgC_app, List.length_append, ← HNL.out]
            exact own4
          have hb4 : Below w.heap.size w w4 := hb.grown grow4 hs (fun k hk => (ownsRow_blk HOX.out hk).1)
          clear own4 grow4 at4
          go_wp2
          go_roundw
          case rel => exact ⟨c + 1, by omega, by go_num, hb4, HP⟩
          case measure => simp [intOf]; omega
end Go.Proofs.YtgbdlgogccgciaaGreatDoor
