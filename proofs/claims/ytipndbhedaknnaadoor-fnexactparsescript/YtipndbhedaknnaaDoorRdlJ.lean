import Derived.Test.YtipndbhedaknnaaDoorRdlI
namespace Go.Proofs.YtipndbhedaknnaaDoor
open Go.RowKit Go.Shelf
attribute [local go_sem] Oper.semAt_some

def linesW (w : World) (t : ByteArray) (bm : Nat) : World := (((((((w.alloc (.cells #[.map (some bm)] 52)).alloc (.cells #[.int .i64 2] 3)).alloc (.cells #[.int .i64 0] 3)).alloc (.cells #[.int .i64 0] 3)).alloc (.cells #[.int .i64 0] 3)).alloc (.cells #[.string t] 9)).alloc (.cells #[.string ⟨#[10]⟩] 9)).alloc (.cells #[.int .i64 0] 3)
theorem lines_size (w : World) (t : ByteArray) (bm : Nat) : (linesW w t bm).heap.size = w.heap.size + 8 := by unfold linesW; simp
theorem lines_low (w : World) (t : ByteArray) (bm : Nat) : Below w.heap.size w (linesW w t bm) :=
  ((((((((Below.refl _ w).alloc (Nat.le_refl _) _).alloc (by simp) _).alloc (by simp; omega) _).alloc (by simp; omega) _).alloc (by simp; omega) _).alloc (by simp; omega) _).alloc (by simp; omega) _).alloc (by simp; omega) _
theorem lines_boxes (w : World) (t : ByteArray) (bm br : Nat) (hm : w.heap[bm]? = some (.map (mapE br) 3)) : RB w.heap.size bm br 0 (linesW w t bm) ∧ Boxed (linesW w t bm) (w.heap.size + 1 + 1 + 1 + 1 + 1) 9 (.string t) ∧ Boxed (linesW w t bm) (w.heap.size + 1 + 1 + 1 + 1 + 1 + 1) 9 (.string ⟨#[10]⟩) ∧ Boxed (linesW w t bm) (w.heap.size + 1 + 1 + 1 + 1 + 1 + 1 + 1) 3 (.int .i64 0) := by
  have a0 := Boxed.new w 52 (.map (some bm))
  have a1 := Boxed.new (w.alloc (.cells #[.map (some bm)] 52)) 3 (.int .i64 2)
  have a2 := Boxed.new ((w.alloc (.cells #[.map (some bm)] 52)).alloc (.cells #[.int .i64 2] 3)) 3 (.int .i64 0)
  have a3 := Boxed.new (((w.alloc (.cells #[.map (some bm)] 52)).alloc (.cells #[.int .i64 2] 3)).alloc (.cells #[.int .i64 0] 3)) 3 (.int .i64 0)
  have a4 := Boxed.new ((((w.alloc (.cells #[.map (some bm)] 52)).alloc (.cells #[.int .i64 2] 3)).alloc (.cells #[.int .i64 0] 3)).alloc (.cells #[.int .i64 0] 3)) 3 (.int .i64 0)
  have a5 := Boxed.new (((((w.alloc (.cells #[.map (some bm)] 52)).alloc (.cells #[.int .i64 2] 3)).alloc (.cells #[.int .i64 0] 3)).alloc (.cells #[.int .i64 0] 3)).alloc (.cells #[.int .i64 0] 3)) 9 (.string t)
  have a6 := Boxed.new ((((((w.alloc (.cells #[.map (some bm)] 52)).alloc (.cells #[.int .i64 2] 3)).alloc (.cells #[.int .i64 0] 3)).alloc (.cells #[.int .i64 0] 3)).alloc (.cells #[.int .i64 0] 3)).alloc (.cells #[.string t] 9)) 9 (.string ⟨#[10]⟩)
  have a7 := Boxed.new (((((((w.alloc (.cells #[.map (some bm)] 52)).alloc (.cells #[.int .i64 2] 3)).alloc (.cells #[.int .i64 0] 3)).alloc (.cells #[.int .i64 0] 3)).alloc (.cells #[.int .i64 0] 3)).alloc (.cells #[.string t] 9)).alloc (.cells #[.string ⟨#[10]⟩] 9)) 3 (.int .i64 0)
  simp only [World.size_alloc] at a1 a2 a3 a4 a5 a6 a7
  exact ⟨⟨((((((a0.alloc _).alloc _).alloc _).alloc _).alloc _).alloc _).alloc _, (((((a1.alloc _).alloc _).alloc _).alloc _).alloc _).alloc _, ((((a2.alloc _).alloc _).alloc _).alloc _).alloc _, (((a3.alloc _).alloc _).alloc _).alloc _, ((a4.alloc _).alloc _).alloc _, ((lines_low w t bm).block bm (Array.getElem?_eq_some_iff.1 hm).1).trans hm⟩, (a5.alloc _).alloc _, a6.alloc _, a7⟩
theorem RdAt.of {base br : Nat} {A B : World} {vv : Value} {evs : List (Int × List UInt8)} (h : RdAt base br A vv evs) (hb : B.heap[br]? = A.heap[br]?) (hg : ∀ g c t, base ≤ g → A.heap[g]? = some (.cells c t (0, 0)) → B.heap[g]? = A.heap[g]?) : RdAt base br B vv evs := by
  refine ⟨hb.trans h.1, h.2.1, ?_⟩
  rcases h.2.2 with hn | ⟨g, cap, cur, rfl, h1, h2, h3⟩
  · exact .inl hn
  · exact .inr ⟨g, cap, cur, rfl, h1, (hg g cur _ h1 h2).trans h2, h3⟩
theorem Rnd.out {H bm br n₀ : Nat} {k : Int} {wS W X : World} (h : Rnd H bm br n₀ k wS W X) (hn : n₀ ≤ H) (code line : Int) :
    KeepsFrom (H + 8) W ((X.setCell ⟨H + 1 + 1, 0, none⟩ (.int .i64 code)).setCell ⟨H + 1 + 1 + 1, 0, none⟩ (.int .i64 line)) ∧ Boxed ((X.setCell ⟨H + 1 + 1, 0, none⟩ (.int .i64 code)).setCell ⟨H + 1 + 1 + 1, 0, none⟩ (.int .i64 line)) (H + 1 + 1) 3 (.int .i64 code) ∧ Boxed ((X.setCell ⟨H + 1 + 1, 0, none⟩ (.int .i64 code)).setCell ⟨H + 1 + 1 + 1, 0, none⟩ (.int .i64 line)) (H + 1 + 1 + 1) 3 (.int .i64 line) ∧ Below n₀ wS ((X.setCell ⟨H + 1 + 1, 0, none⟩ (.int .i64 code)).setCell ⟨H + 1 + 1 + 1, 0, none⟩ (.int .i64 line)) :=
  ⟨(h.keep.trans ((KeepsOthers.setCell _ _ _).from _)).trans ((KeepsOthers.setCell _ _ _).from _), (h.rb.b6.set (.int .i64 code)).other (B' := H + 1 + 1 + 1) (by omega) _, (h.rb.b7.other (B' := H + 1 + 1) (by omega) _).set _, (h.low.setCell (p := ⟨H + 1 + 1, 0, none⟩) (by simp; omega) (.int .i64 code)).setCell (p := ⟨H + 1 + 1 + 1, 0, none⟩) (by simp; omega) (.int .i64 line)⟩
theorem cut_mem (c : UInt8) : ∀ (l k : List UInt8), k ∈ cutF c l → k.length ≤ l.length
  | [], k, h => by simp [cutF] at h; subst h; exact Nat.le_refl _
  | x :: l, k, h => by
    by_cases hx : x = c
    · rw [cutF, if_pos hx] at h
      rcases List.mem_cons.1 h with rfl | h
      · exact Nat.zero_le _
      · have := cut_mem c l k h; simp; omega
    · rw [cutF, if_neg hx] at h
      cases hc : cutF c l with
      | nil => exact absurd hc (cutF_ne _ _)
      | cons a r =>
        rw [hc] at h
        rcases List.mem_cons.1 h with rfl | h
        · have := cut_mem c l a (by rw [hc]; simp); simp; omega
        · have := cut_mem c l k (by rw [hc]; simp [h]); simp; omega
theorem cut_head {c : UInt8} {l f0 : List UInt8} {ls : List (List UInt8)} (h : cutF c l = f0 :: ls) : (ls.headD []).length ≤ l.length := by
  cases ls with
  | nil => exact Nat.zero_le _
  | cons a r => exact cut_mem c l a (by rw [h]; simp)
theorem LineTo.split {base br b : Nat} {w w' : World} {vv : Value} {evs : List (Int × List UInt8)} {ev : Option (Int × List UInt8)} {cc : Int} (k : LineTo base br b w vv evs ev (.returned (.int .i64 cc)) w') :
    (cc = 0 ∧ ∃ x, ev = some x ∧ ¬evs.length = 4000 ∧ Only br vv.ownBlock b w w' ∧ ∃ vv', RdAt base br w' vv' (evs ++ [x])) ∨
    (¬cc = 0 ∧ ((ev = none ∧ cc = 2) ∨ ((∃ x, ev = some x) ∧ evs.length = 4000 ∧ cc = 3)) ∧ Only br vv.ownBlock b w w' ∧ ∃ vv', RdAt base br w' vv' evs) := by
  cases ev with
  | none =>
    obtain ⟨h1, h2, h3⟩ := k.1 rfl
    obtain rfl : cc = 2 := by simpa using h1
    exact .inr ⟨by decide, .inl ⟨rfl, rfl⟩, h2, h3⟩
  | some x =>
    by_cases h : evs.length = 4000
    · obtain ⟨h1, h2, h3⟩ := (k.2 x rfl).1 h
      obtain rfl : cc = 3 := by simpa using h1
      exact .inr ⟨by decide, .inr ⟨⟨x, rfl⟩, h, rfl⟩, h2, h3⟩
    · obtain ⟨h1, h2, h3⟩ := (k.2 x rfl).2 h
      obtain rfl : cc = 0 := by simpa using h1
      exact .inl ⟨rfl, x, rfl, h, h2, h3⟩
/-- What a round leaves alone. -/
theorem keeps_of {B : Nat} {W W' : World} (hs : W.heap.size ≤ W'.heap.size) (h : ∀ k o, B ≤ k → W.heap[k]? = some o → o.isCells = false → W'.heap[k]? = W.heap[k]?) : KeepsFrom B W W' := ⟨hs, fun k o hb hk ho => (h k o hb hk ho).trans hk⟩

set_option maxRecDepth 100000 in
set_option maxHeartbeats 8000000 in
theorem readLines_ok (t : ByteArray) (n₀ bm br : Nat) (wS w : World) (hsz : t.size ≤ 20000) (hlow : Below n₀ wS w) (hn : n₀ ≤ wS.heap.size) (hbr0 : n₀ ≤ br) (hbr : br < w.heap.size) (hbm : bm < w.heap.size) (hne : bm ≠ br) (hm : w.heap[bm]? = some (.map (mapE br) 3)) (hr : Boxed w br 63 (.slice none 0 0)) :
    Calls Tryd.prog 22 #[.string t, .map (some bm), .int .i64 2] w fun e w' => Below n₀ wS w' ∧
      ((∃ vv evs, e = .returned (.tuple #[.int .i64 0, .int .i64 0]) ∧ scriptL 0 [] (cutF 10 t.data.toList) = (evs, 0, 0) ∧ RdAt (w.heap.size + 8) br w' vv evs) ∨
       (∃ code line, e = .returned (.tuple #[.int .i64 code, .int .i64 line]) ∧ ¬code = 0 ∧ scriptL 0 [] (cutF 10 t.data.toList) = ([], code, line))) := by
  refine (callsIn_wide (n := 5)).1 ?_
  refine callsIn_of_wp_marks Tryd.func22 rfl trivial ?_ rfl
  simp only [Tryd.ntmps22, List.size_toArray, List.length_cons, List.length_nil, Nat.reduceAdd, Nat.reduceSub, Array.replicate_succ, Array.replicate_zero, List.push_toArray, List.append_toArray, List.nil_append, List.cons_append]
  gi_wp2_with (refine ⟨trivial, ?_⟩; gi_at_call 40; refine (splitSeqO_in _ (by omega) _ _ _).mono ?_; rintro e w' ⟨rfl, rfl⟩)
  have hszE := lines_size w t bm
  have hlow0 := lines_low w t bm
  obtain ⟨hRB, hB5, hB6, hB7⟩ := lines_boxes w t bm br hm
  obtain ⟨W0, hW0⟩ : ∃ W0, linesW w t bm = W0 := ⟨_, rfl⟩
  rw [show (((((((w.alloc (.cells #[.map (some bm)] 52)).alloc (.cells #[.int .i64 2] 3)).alloc (.cells #[.int .i64 0] 3)).alloc (.cells #[.int .i64 0] 3)).alloc (.cells #[.int .i64 0] 3)).alloc (.cells #[.string t] 9)).alloc (.cells #[.string ⟨#[10]⟩] 9)).alloc (.cells #[.int .i64 0] 3) = W0 from hW0]
  rw [hW0] at hszE hlow0 hRB hB5 hB6 hB7
  clear hW0
  have hr0 : RdAt (w.heap.size + 8) br W0 (.slice none 0 0) [] := ⟨(hlow0.block br hbr).trans hr, World.ownsRow_nil _ _ _ _⟩
  have hlowW : Below n₀ wS W0 := hlow.trans (hlow0.mono (by omega))
  refine wpIn_rangeB (by omega) (gf := 59) (lb := #[.pointer (some ⟨w.heap.size + 1 + 1 + 1 + 1 + 1 + 1, 0, none⟩), .pointer (some ⟨w.heap.size + 1 + 1 + 1 + 1 + 1, 0, none⟩), .pointer (some ⟨w.heap.size + 1 + 1 + 1 + 1 + 1 + 1 + 1, 0, none⟩)]) rfl (enters_of Tryd.func59 (by kernel_rfl) rfl)
    (b := w.heap.size + 1 + 1 + 1 + 1 + 1) (T := [w.heap.size + 1 + 1 + 1 + 1 + 1, w.heap.size + 1 + 1 + 1 + 1 + 1 + 1, w.heap.size + 1 + 1 + 1 + 1 + 1 + 1 + 1]) (by omega) (by intro k hk; simp at hk; omega)
    (splitSeq_runs 4 (w.heap.size + 1 + 1 + 1 + 1 + 1) t 10 (by omega) (by omega) W0 hB5 hB6 hB7) (fun _ => rfl)
    (fun pre W => (RB w.heap.size bm br pre.length W ∧ ∃ vv evs, RdAt (w.heap.size + 8) br W vv evs ∧ ScrPre (pre.map toL) evs) ∧ (Below n₀ wS W ∧ w.heap.size + 8 ≤ W.heap.size))
    (fun c pre W => (c = .ret ∧ ∃ code line, ScrEnd (pre.map toL) code line ∧ Boxed W (w.heap.size + 1 + 1) 3 (.int .i64 code) ∧ Boxed W (w.heap.size + 1 + 1 + 1) 3 (.int .i64 line)) ∧ Below n₀ wS W)
    (fun s A B hs ht => by
      rw [hszE] at ht
      obtain ⟨⟨h1, vv, evs, h2, h3⟩, h4⟩ := hs
      exact ⟨⟨h1.turn hbm ht, vv, evs, h2.turn ht (by omega) (by omega), h3⟩, ht.below h4.1 (by omega) (by omega) hn, Nat.le_trans h4.2 ht.size⟩)
    (fun c s A B hs ht => by
      rw [hszE] at ht
      obtain ⟨⟨h1, code, line, h2, h3, h4⟩, h5⟩ := hs
      exact ⟨⟨h1, code, line, h2, ht.boxed h3 (by omega), ht.boxed h4 (by omega)⟩, ht.below h5 (by omega) (by omega) hn⟩)
    ⟨⟨hRB, _, _, hr0, ScrPre.start⟩, hlowW, by omega⟩
    (fun x => { tmps := #[.string t, .map (some bm), .int .i64 2, undef, .pointer (some ⟨w.heap.size, 0, none⟩), .pointer (some ⟨w.heap.size + 1, 0, none⟩), .pointer (some ⟨w.heap.size + 1 + 1, 0, none⟩), .pointer (some ⟨w.heap.size + 1 + 1 + 1, 0, none⟩), .pointer (some ⟨w.heap.size + 1 + 1 + 1 + 1, 0, none⟩), .string x.1, undef, undef, undef, undef, .string t, .func (.func 59) #[] #[.pointer (some ⟨w.heap.size + 1 + 1 + 1 + 1 + 1 + 1, 0, none⟩), .pointer (some ⟨w.heap.size + 1 + 1 + 1 + 1 + 1, 0, none⟩), .pointer (some ⟨w.heap.size + 1 + 1 + 1 + 1 + 1 + 1 + 1, 0, none⟩)], .string x.1, undef, undef, undef, undef, undef, undef, undef, undef, undef, undef, undef, undef, undef, undef, undef, undef, undef, undef, undef, undef, undef, undef, undef, undef, undef, undef, undef, undef, undef, undef, undef, undef, undef], defers := [] })
    ?assign ?body ?done ?stop
  case assign =>
    intro l x W K hK
    gi_wp2
    exact hK
  case body =>
    rintro l pre ⟨x, hx⟩ W hl ⟨⟨hB, vv, evs, hra, hsp⟩, hlw, hWs⟩ hlen
    rw [hszE] at hl ⊢
    rw [cut_len] at hlen
    have hpl : pre.length ≤ 20001 := by
      have h1 := List.count_le_length (a := (10 : UInt8)) (l := t.data.toList)
      have h2 : t.data.toList.length = t.size := by simp
      omega
    clear hlen
    have hR1 := Rnd.start hB hbm hlw hWs (by omega) ((pre.length : Int) + 1)
    have hra1 : RdAt (w.heap.size + 8) br (W.setCell ⟨w.heap.size + 1 + 1 + 1 + 1, 0, none⟩ (.int .i64 ((pre.length : Int) + 1))) vv evs := hra.of (Below.heap_setCell W _ _ br (by show br ≠ w.heap.size + 1 + 1 + 1 + 1; omega)) (fun g c t hg _ => Below.heap_setCell W _ _ g (by show g ≠ w.heap.size + 1 + 1 + 1 + 1; omega))
    have c8 := hB.b8.cell
    have f8 := hB.b8.frozen
    have hmap : (pre ++ [(⟨x, hx⟩ : Ln)]).map toL = pre.map toL ++ [x.data.toList] := by simp [toL]
    have hlen2 : ((pre ++ [(⟨x, hx⟩ : Ln)]).length : Int) = (pre.length : Int) + 1 := by simp
    have hml : ((pre.map toL).length : Int) = (pre.length : Int) := by simp
    obtain ⟨np, hnp⟩ : ∃ np : Nat, pre.length = np := ⟨_, rfl⟩
    rw [hnp] at hpl hR1 hra1 c8 hlen2 hml
    clear hnp
    have hxe := empty_of x
    by_cases hx0 : x.size = 0
    · have hsk : skipF x.data.toList = true := by
        have : x.data.toList = [] := List.eq_nil_of_length_eq_zero (by simpa using hx0)
        rw [this]; rfl
      rw [decide_eq_true hx0] at hxe
      gi_wp2
      exact ⟨hR1.keep, fun k hk => hR1.kp k (by simp at hk; omega) (by simp at hk; omega), ⟨by rw [hlen2]; exact hR1.rb, vv, evs, hra1, by rw [hmap]; exact hsp.skip hsk⟩, hR1.low, hR1.size⟩
    rw [decide_eq_false hx0] at hxe
    have hx1 : (0 : Int) < (x.size : Int) := by omega
    have hx2 : 0 < x.size := by omega
    by_cases h35 : (x[0].toNat : Int) = 35
    · have hsk : skipF x.data.toList = true := by
        have := drop_at x 0 hx2
        rw [List.drop_zero] at this
        rw [this]
        simp [skipF]
        omega
      gi_wp2
      exact ⟨hR1.keep, fun k hk => hR1.kp k (by simp at hk; omega) (by simp at hk; omega), ⟨by rw [hlen2]; exact hR1.rb, vv, evs, hra1, by rw [hmap]; exact hsp.skip hsk⟩, hR1.low, hR1.size⟩
    have hsk : skipF x.data.toList = false := by
      have := drop_at x 0 hx2
      rw [List.drop_zero] at this
      rw [this]
      simp [skipF]
      omega
    have hd35 : ((x[0].toNat : Int) == 35) = false := by simpa using h35
    gi_wp2_with (refine ⟨trivial, ?_⟩; gi_at_call 41; refine (CallsIn.inRound l (callsIn_wide.2 (split_ok x 32 _ hx))).mono ?_; rintro e w2 ⟨g, cap, rfl, hst, hb2⟩)
    have hR2 := hR1.step hbm hbr hne hbr0 (Mild.below hb2)
    have hra2 := hra1.mild hb2
    cases hcut : cutF 32 x.data.toList with
    | nil => exact absurd hcut (cutF_ne _ _)
    | cons f0 ls =>
    rw [hcut] at hst
    have hev : lineEv x.data.toList = if f0 = [105, 110] then inLine ls else if f0 = [116, 105, 99, 107] then bareLine 2 ls else if f0 = [101, 111, 102] then bareLine 3 ls else none := by
      unfold lineEv
      rw [hcut]
    have hc0 : w2.cell? ⟨g, 0, none⟩ = some (.string ⟨f0.toArray⟩) := hst.cell (j := 0) (by simp)
    have c4 := hR2.rb.b4.cell
    have c5 := hR2.rb.b5.cell
    have c8' := hR2.rb.b8.cell
    have hmx : Tryd.prog.follows .mixedOrders = true := by kernel_rfl
    have hll : (f0 :: ls).length = ls.length + 1 := rfl
    rw [hll]
    have hl0 : (0 : Int) < ((ls.length : Nat) : Int) + 1 := by omega
    have hR2d := hR2.step hbm hbr hne hbr0 (Mild.drew w2)
    have c6' := hR2.rb.b6.cell
    have f6' := hR2.rb.b6.frozen
    have c7' := hR2.rb.b7.cell
    have f7' := hR2.rb.b7.frozen
    rename_i K hK
    by_cases hkn : f0 = [105, 110] ∨ f0 = [116, 105, 99, 107] ∨ f0 = [101, 111, 102]
    case neg =>
      have hlk := map_miss (P := Tryd.prog) (mt := 52) Tryd.underlying52 Tryd.underlying9 w2.drew bm _ _ hR2.rb.mp ⟨f0.toArray⟩ .nilFunc (Tryd.zeroValue81 _) (by
        unfold mapE
        rw [find_next _ _ _ _ _ _ (fun e => hkn (.inl (by simpa using congrArg (fun b : ByteArray => b.data.toList) e))), find_next _ _ _ _ _ _ (fun e => hkn (.inr (.inl (by simpa using congrArg (fun b : ByteArray => b.data.toList) e)))), find_next _ _ _ _ _ _ (fun e => hkn (.inr (.inr (by simpa using congrArg (fun b : ByteArray => b.data.toList) e))))]
        rfl)
      have hbad : lineEv x.data.toList = none := by
        rw [hev, if_neg (fun e => hkn (.inl e)), if_neg (fun e => hkn (.inr (.inl e))), if_neg (fun e => hkn (.inr (.inr e)))]
      have hend : ScrEnd ((pre ++ [(⟨x, hx⟩ : Ln)]).map toL) 2 ((np : Int) + 1) := by
        have := hsp.bad hsk hbad
        rw [hml] at this
        rw [hmap]
        exact this
      obtain ⟨o1, o2, o3, o4⟩ := hR2.out (by omega) 2 ((np : Int) + 1)
      have hrest : K { tmps := #[.string t, .map (some bm), .int .i64 2, undef, .pointer (some ⟨w.heap.size, 0, none⟩), .pointer (some ⟨w.heap.size + 1, 0, none⟩), .pointer (some ⟨w.heap.size + 1 + 1, 0, none⟩), .pointer (some ⟨w.heap.size + 1 + 1 + 1, 0, none⟩), .pointer (some ⟨w.heap.size + 1 + 1 + 1 + 1, 0, none⟩), .string x, .slice (some ⟨g, 0, none⟩) (ls.length + 1) cap, .nilFunc, .bool false, undef, .string t, .func (.func 59) #[] #[.pointer (some ⟨w.heap.size + 1 + 1 + 1 + 1 + 1 + 1, 0, none⟩), .pointer (some ⟨w.heap.size + 1 + 1 + 1 + 1 + 1, 0, none⟩), .pointer (some ⟨w.heap.size + 1 + 1 + 1 + 1 + 1 + 1 + 1, 0, none⟩)], .string x, .int .i64 np, .int .i64 (np + 1), .string x, .bool false, .bool false, .string x, .int .u8 x[0].toNat, .bool false, .bool false, .string x, .slice (some ⟨g, 0, none⟩) (ls.length + 1) cap, .tuple #[.nilFunc, .bool false], .map (some bm), .slice (some ⟨g, 0, none⟩) (ls.length + 1) cap, .pointer (some ⟨g, 0, none⟩), .string ⟨f0.toArray⟩, .tuple #[.nilFunc, .bool false], .nilFunc, .bool false, undef, undef, undef, undef, undef, undef, undef, undef, undef, undef, undef, undef, undef, undef], defers := [] } w2.drew := by
        refine hK _ _ ?_
        gi_wp2
        gi_region_with_o fail
        all_goals gi_wp2
        all_goals exact ⟨⟨o1.size, o1.same⟩, ⟨rfl, 2, (np : Int) + 1, hend, o2, o3⟩, o4.os, o4.tape, o4.output, o4.size, o4.block⟩
      gi_region_with_o fail
      all_goals exact hrest
    case pos =>
      obtain ⟨hg0, hg1, hg2, hg3⟩ := own_form hst
      obtain ⟨o1, hif, ho1⟩ : ∃ o1, (if cap = 1 then some (⟨g, 0, none⟩ : Addr) else some ⟨g, 1, none⟩) = some ⟨g, o1, none⟩ ∧ (o1 = 1 ∨ ls = []) := by
        by_cases hc1 : cap = 1
        · refine ⟨0, by rw [if_pos hc1], .inr ?_⟩
          apply List.eq_nil_of_length_eq_zero
          simp at hg2
          omega
        · exact ⟨1, by rw [if_neg hc1], .inl rfl⟩
      have hF3 : FldAt ((w2.alloc (.cells #[.slice (some ⟨g, o1, none⟩) ls.length (cap - 1), .bool false] 84)).drew) w2.heap.size ls false g o1 (cap - 1) := by
        refine ⟨World.alloc_heap_new w2 _, fun j hj => ?_, by omega, by simp at hg2; omega, by unfold maxLen at hg3; omega⟩
        rcases ho1 with rfl | rfl
        · have h1 := hst.cell (j := 1 + j) (by simp; omega)
          have h2 : (w2.alloc (.cells #[.slice (some ⟨g, 1, none⟩) ls.length (cap - 1), .bool false] 84)).cell? ⟨g, 1 + j, none⟩ = w2.cell? ⟨g, 1 + j, none⟩ := World.cell?_of_block (Below.heap_alloc w2 _ g hg1)
          have h3 : (f0 :: ls)[1 + j]'(by simp; omega) = ls[j] := by simp [Nat.add_comm 1 j]
          rw [h3] at h1
          exact h2.trans h1
        · exact absurd hj (Nat.not_lt_zero _)
      have hra3 : RdAt (w.heap.size + 8) br ((w2.alloc (.cells #[.slice (some ⟨g, o1, none⟩) ls.length (cap - 1), .bool false] 84)).drew) vv evs := hra2.mild ⟨rfl, rfl, rfl, by simp [World.drew], fun k hk => Below.heap_alloc w2 _ k hk⟩
      have hR3 := (hR2.step hbm hbr hne hbr0 (Mild.alloc w2 (.cells #[.slice (some ⟨g, o1, none⟩) ls.length (cap - 1), .bool false] 84))).step hbm hbr hne hbr0 (Mild.drew _)
      have hb3 : w.heap.size + 8 ≤ w2.heap.size := hR2.size
      have hsz3 : w.heap.size + 8 ≤ ((w2.alloc (.cells #[.slice (some ⟨g, o1, none⟩) ls.length (cap - 1), .bool false] 84)).drew).heap.size := hR3.size
      have hl1 : (1 : Int) ≤ ((ls.length : Nat) : Int) + 1 := by omega
      have hbb : ∃ c t f, ((w2.alloc (.cells #[.slice (some ⟨g, o1, none⟩) ls.length (cap - 1), .bool false] 84)).drew).heap[w2.heap.size]? = some (.cells c t f) := ⟨_, _, _, World.alloc_heap_new w2 _⟩
      rcases hkn with hkn | hkn | hkn
      case inl =>
        have hlk := map_get (P := Tryd.prog) (mt := 52) Tryd.underlying52 Tryd.underlying9 w2.drew bm _ _ hR2.rb.mp ⟨f0.toArray⟩ 0 (.func (.func 27) #[.pointer (some ⟨br, 0, none⟩)] #[]) (by
          subst hkn
          unfold mapE
          exact find_hit _ _ _ _ _)
        have hcall := in_ok (w.heap.size + 8) br w2.heap.size vv evs ls g o1 (cap - 1) _ hra3 hF3 hsp.1 hsz3 (by omega) (fun e => by obtain ⟨h1, c, tt, f, h2⟩ := rd_cells hra2 _ e; have := (Array.getElem?_eq_some_iff.1 h2).1; omega) (by
          have h1 : (ls.headD []).length ≤ x.data.toList.length := cut_head hcut
          have h2 : x.data.toList.length = x.size := by simp
          omega)
        have hevr : lineEv x.data.toList = inLine ls := by rw [hev, hkn]; rfl
        rw [← hevr] at hcall
        clear hkn
        have hrest : K { tmps := #[.string t, .map (some bm), .int .i64 2, undef, .pointer (some ⟨w.heap.size, 0, none⟩), .pointer (some ⟨w.heap.size + 1, 0, none⟩), .pointer (some ⟨w.heap.size + 1 + 1, 0, none⟩), .pointer (some ⟨w.heap.size + 1 + 1 + 1, 0, none⟩), .pointer (some ⟨w.heap.size + 1 + 1 + 1 + 1, 0, none⟩), .string x, .slice (some ⟨g, 0, none⟩) (ls.length + 1) cap, .func (.func 27) #[.pointer (some ⟨br, 0, none⟩)] #[], .bool true, undef, .string t, .func (.func 59) #[] #[.pointer (some ⟨w.heap.size + 1 + 1 + 1 + 1 + 1 + 1, 0, none⟩), .pointer (some ⟨w.heap.size + 1 + 1 + 1 + 1 + 1, 0, none⟩), .pointer (some ⟨w.heap.size + 1 + 1 + 1 + 1 + 1 + 1 + 1, 0, none⟩)], .string x, .int .i64 np, .int .i64 (np + 1), .string x, .bool false, .bool false, .string x, .int .u8 x[0].toNat, .bool false, .bool false, .string x, .slice (some ⟨g, 0, none⟩) (ls.length + 1) cap, .tuple #[.func (.func 27) #[.pointer (some ⟨br, 0, none⟩)] #[], .bool true], .map (some bm), .slice (some ⟨g, 0, none⟩) (ls.length + 1) cap, .pointer (some ⟨g, 0, none⟩), .string ⟨f0.toArray⟩, .tuple #[.func (.func 27) #[.pointer (some ⟨br, 0, none⟩)] #[], .bool true], .func (.func 27) #[.pointer (some ⟨br, 0, none⟩)] #[], .bool true, undef, undef, undef, undef, undef, undef, undef, undef, undef, undef, undef, undef, undef, undef], defers := [] } w2.drew := by
          refine hK _ _ ?_
          gi_wp2_with fail
          refine ⟨trivial, (CallsIn.inRound l (callsIn_wide.2 hcall)).mono ?_⟩
          intro e w4 hline
          obtain ⟨cc, rfl⟩ := hline.ret
          rcases hline.split with ⟨rfl, y, hy, hn4, honly, vv4, hr4⟩ | ⟨hcc, hcode, honly, vv4, hr4⟩
          · have hR4 := hR3.step hbm hbr hne hbr0 (Mild.only honly (rd_cells hra3) ⟨hb3, hbb⟩)
            clear hline hcall
            gi_wp2
            exact ⟨hR4.keep, fun k hk => hR4.kp k (by simp at hk; omega) (by simp at hk; omega), ⟨by rw [hlen2]; exact hR4.rb, vv4, _, hr4, by rw [hmap]; exact hsp.one hsk hy hn4⟩, hR4.low, hR4.size⟩
          · have hR4 := hR3.step hbm hbr hne hbr0 (Mild.only honly (rd_cells hra3) ⟨hb3, hbb⟩)
            have hend : ScrEnd ((pre ++ [(⟨x, hx⟩ : Ln)]).map toL) cc ((np : Int) + 1) := by
              rw [hmap]
              rcases hcode with ⟨hy, rfl⟩ | ⟨⟨y, hy⟩, hn4, rfl⟩
              · have := hsp.bad hsk hy
                rw [hml] at this
                exact this
              · have := hsp.many hsk hy hn4
                rw [hml] at this
                exact this
            obtain ⟨o1', o2, o3, o4⟩ := hR4.out (by omega) cc ((np : Int) + 1)
            have e6 := hR4.rb.b6.cell
            have g6 := hR4.rb.b6.frozen
            have e7 := hR4.rb.b7.cell
            have g7 := hR4.rb.b7.frozen
            have e8 := hR4.rb.b8.cell
            have hcc' : (cc != 0) = true := by simpa using hcc
            clear hline hcall hcode hcc
            gi_wp2
            gi_region_with_o fail
            all_goals gi_wp2
            all_goals exact ⟨⟨o1'.size, o1'.same⟩, ⟨rfl, cc, (np : Int) + 1, hend, o2, o3⟩, o4.os, o4.tape, o4.output, o4.size, o4.block⟩
        gi_region_with_o fail
        all_goals exact hrest
      case inr.inl =>
        have hlk := map_get (P := Tryd.prog) (mt := 52) Tryd.underlying52 Tryd.underlying9 w2.drew bm _ _ hR2.rb.mp ⟨f0.toArray⟩ 1 (.func (.func 28) #[.pointer (some ⟨br, 0, none⟩)] #[]) (by
          subst hkn
          unfold mapE
          rw [find_next _ _ _ _ _ _ (by decide)]; exact find_hit _ _ _ _ _)
        have hcall := tick_ok (w.heap.size + 8) br w2.heap.size vv evs ls g o1 (cap - 1) _ hra3 hF3 hsp.1 hsz3
        have hevr : lineEv x.data.toList = bareLine 2 ls := by rw [hev, hkn]; rfl
        rw [← hevr] at hcall
        clear hkn
        have hrest : K { tmps := #[.string t, .map (some bm), .int .i64 2, undef, .pointer (some ⟨w.heap.size, 0, none⟩), .pointer (some ⟨w.heap.size + 1, 0, none⟩), .pointer (some ⟨w.heap.size + 1 + 1, 0, none⟩), .pointer (some ⟨w.heap.size + 1 + 1 + 1, 0, none⟩), .pointer (some ⟨w.heap.size + 1 + 1 + 1 + 1, 0, none⟩), .string x, .slice (some ⟨g, 0, none⟩) (ls.length + 1) cap, .func (.func 28) #[.pointer (some ⟨br, 0, none⟩)] #[], .bool true, undef, .string t, .func (.func 59) #[] #[.pointer (some ⟨w.heap.size + 1 + 1 + 1 + 1 + 1 + 1, 0, none⟩), .pointer (some ⟨w.heap.size + 1 + 1 + 1 + 1 + 1, 0, none⟩), .pointer (some ⟨w.heap.size + 1 + 1 + 1 + 1 + 1 + 1 + 1, 0, none⟩)], .string x, .int .i64 np, .int .i64 (np + 1), .string x, .bool false, .bool false, .string x, .int .u8 x[0].toNat, .bool false, .bool false, .string x, .slice (some ⟨g, 0, none⟩) (ls.length + 1) cap, .tuple #[.func (.func 28) #[.pointer (some ⟨br, 0, none⟩)] #[], .bool true], .map (some bm), .slice (some ⟨g, 0, none⟩) (ls.length + 1) cap, .pointer (some ⟨g, 0, none⟩), .string ⟨f0.toArray⟩, .tuple #[.func (.func 28) #[.pointer (some ⟨br, 0, none⟩)] #[], .bool true], .func (.func 28) #[.pointer (some ⟨br, 0, none⟩)] #[], .bool true, undef, undef, undef, undef, undef, undef, undef, undef, undef, undef, undef, undef, undef, undef], defers := [] } w2.drew := by
          refine hK _ _ ?_
          gi_wp2_with fail
          refine ⟨trivial, (CallsIn.inRound l (callsIn_wide.2 hcall)).mono ?_⟩
          intro e w4 hline
          obtain ⟨cc, rfl⟩ := hline.ret
          rcases hline.split with ⟨rfl, y, hy, hn4, honly, vv4, hr4⟩ | ⟨hcc, hcode, honly, vv4, hr4⟩
          · have hR4 := hR3.step hbm hbr hne hbr0 (Mild.only honly (rd_cells hra3) ⟨hb3, hbb⟩)
            clear hline hcall
            gi_wp2
            exact ⟨hR4.keep, fun k hk => hR4.kp k (by simp at hk; omega) (by simp at hk; omega), ⟨by rw [hlen2]; exact hR4.rb, vv4, _, hr4, by rw [hmap]; exact hsp.one hsk hy hn4⟩, hR4.low, hR4.size⟩
          · have hR4 := hR3.step hbm hbr hne hbr0 (Mild.only honly (rd_cells hra3) ⟨hb3, hbb⟩)
            have hend : ScrEnd ((pre ++ [(⟨x, hx⟩ : Ln)]).map toL) cc ((np : Int) + 1) := by
              rw [hmap]
              rcases hcode with ⟨hy, rfl⟩ | ⟨⟨y, hy⟩, hn4, rfl⟩
              · have := hsp.bad hsk hy
                rw [hml] at this
                exact this
              · have := hsp.many hsk hy hn4
                rw [hml] at this
                exact this
            obtain ⟨o1', o2, o3, o4⟩ := hR4.out (by omega) cc ((np : Int) + 1)
            have e6 := hR4.rb.b6.cell
            have g6 := hR4.rb.b6.frozen
            have e7 := hR4.rb.b7.cell
            have g7 := hR4.rb.b7.frozen
            have e8 := hR4.rb.b8.cell
            have hcc' : (cc != 0) = true := by simpa using hcc
            clear hline hcall hcode hcc
            gi_wp2
            gi_region_with_o fail
            all_goals gi_wp2
            all_goals exact ⟨⟨o1'.size, o1'.same⟩, ⟨rfl, cc, (np : Int) + 1, hend, o2, o3⟩, o4.os, o4.tape, o4.output, o4.size, o4.block⟩
        gi_region_with_o fail
        all_goals exact hrest
      case inr.inr =>
        have hlk := map_get (P := Tryd.prog) (mt := 52) Tryd.underlying52 Tryd.underlying9 w2.drew bm _ _ hR2.rb.mp ⟨f0.toArray⟩ 2 (.func (.func 29) #[.pointer (some ⟨br, 0, none⟩)] #[]) (by
          subst hkn
          unfold mapE
          rw [find_next _ _ _ _ _ _ (by decide), find_next _ _ _ _ _ _ (by decide)]; exact find_hit _ _ _ _ _)
        have hcall := eof_ok (w.heap.size + 8) br w2.heap.size vv evs ls g o1 (cap - 1) _ hra3 hF3 hsp.1 hsz3
        have hevr : lineEv x.data.toList = bareLine 3 ls := by rw [hev, hkn]; rfl
        rw [← hevr] at hcall
        clear hkn
        have hrest : K { tmps := #[.string t, .map (some bm), .int .i64 2, undef, .pointer (some ⟨w.heap.size, 0, none⟩), .pointer (some ⟨w.heap.size + 1, 0, none⟩), .pointer (some ⟨w.heap.size + 1 + 1, 0, none⟩), .pointer (some ⟨w.heap.size + 1 + 1 + 1, 0, none⟩), .pointer (some ⟨w.heap.size + 1 + 1 + 1 + 1, 0, none⟩), .string x, .slice (some ⟨g, 0, none⟩) (ls.length + 1) cap, .func (.func 29) #[.pointer (some ⟨br, 0, none⟩)] #[], .bool true, undef, .string t, .func (.func 59) #[] #[.pointer (some ⟨w.heap.size + 1 + 1 + 1 + 1 + 1 + 1, 0, none⟩), .pointer (some ⟨w.heap.size + 1 + 1 + 1 + 1 + 1, 0, none⟩), .pointer (some ⟨w.heap.size + 1 + 1 + 1 + 1 + 1 + 1 + 1, 0, none⟩)], .string x, .int .i64 np, .int .i64 (np + 1), .string x, .bool false, .bool false, .string x, .int .u8 x[0].toNat, .bool false, .bool false, .string x, .slice (some ⟨g, 0, none⟩) (ls.length + 1) cap, .tuple #[.func (.func 29) #[.pointer (some ⟨br, 0, none⟩)] #[], .bool true], .map (some bm), .slice (some ⟨g, 0, none⟩) (ls.length + 1) cap, .pointer (some ⟨g, 0, none⟩), .string ⟨f0.toArray⟩, .tuple #[.func (.func 29) #[.pointer (some ⟨br, 0, none⟩)] #[], .bool true], .func (.func 29) #[.pointer (some ⟨br, 0, none⟩)] #[], .bool true, undef, undef, undef, undef, undef, undef, undef, undef, undef, undef, undef, undef, undef, undef], defers := [] } w2.drew := by
          refine hK _ _ ?_
          gi_wp2_with fail
          refine ⟨trivial, (CallsIn.inRound l (callsIn_wide.2 hcall)).mono ?_⟩
          intro e w4 hline
          obtain ⟨cc, rfl⟩ := hline.ret
          rcases hline.split with ⟨rfl, y, hy, hn4, honly, vv4, hr4⟩ | ⟨hcc, hcode, honly, vv4, hr4⟩
          · have hR4 := hR3.step hbm hbr hne hbr0 (Mild.only honly (rd_cells hra3) ⟨hb3, hbb⟩)
            clear hline hcall
            gi_wp2
            exact ⟨hR4.keep, fun k hk => hR4.kp k (by simp at hk; omega) (by simp at hk; omega), ⟨by rw [hlen2]; exact hR4.rb, vv4, _, hr4, by rw [hmap]; exact hsp.one hsk hy hn4⟩, hR4.low, hR4.size⟩
          · have hR4 := hR3.step hbm hbr hne hbr0 (Mild.only honly (rd_cells hra3) ⟨hb3, hbb⟩)
            have hend : ScrEnd ((pre ++ [(⟨x, hx⟩ : Ln)]).map toL) cc ((np : Int) + 1) := by
              rw [hmap]
              rcases hcode with ⟨hy, rfl⟩ | ⟨⟨y, hy⟩, hn4, rfl⟩
              · have := hsp.bad hsk hy
                rw [hml] at this
                exact this
              · have := hsp.many hsk hy hn4
                rw [hml] at this
                exact this
            obtain ⟨o1', o2, o3, o4⟩ := hR4.out (by omega) cc ((np : Int) + 1)
            have e6 := hR4.rb.b6.cell
            have g6 := hR4.rb.b6.frozen
            have e7 := hR4.rb.b7.cell
            have g7 := hR4.rb.b7.frozen
            have e8 := hR4.rb.b8.cell
            have hcc' : (cc != 0) = true := by simpa using hcc
            clear hline hcall hcode hcc
            gi_wp2
            gi_region_with_o fail
            all_goals gi_wp2
            all_goals exact ⟨⟨o1'.size, o1'.same⟩, ⟨rfl, cc, (np : Int) + 1, hend, o2, o3⟩, o4.os, o4.tape, o4.output, o4.size, o4.block⟩
        gi_region_with_o fail
        all_goals exact hrest
  case done =>
    rintro D ys W hD hys ⟨⟨hB, vv, evs, hra, hsp⟩, hlw, _⟩ hK
    have c6 := hB.b6.cell
    have c7 := hB.b7.cell
    have f6 := hB.b6.frozen
    have f7 := hB.b7.frozen
    gi_wp2
    have hK2 := (KeepsOthers.setCell (W.setCell ⟨w.heap.size + 1 + 1, 0, none⟩ (.int .i64 0)) ⟨w.heap.size + 1 + 1 + 1, 0, none⟩ (.int .i64 0)).same D _ ((KeepsOthers.setCell W ⟨w.heap.size + 1 + 1, 0, none⟩ (.int .i64 0)).same D _ hK rfl) rfl
    have g6 := (hB.b6.set (.int .i64 0)).other (B' := w.heap.size + 1 + 1 + 1) (by omega) (.int .i64 0)
    have g7 := (hB.b7.other (B' := w.heap.size + 1 + 1) (by omega) (.int .i64 0)).set (.int .i64 0)
    have q6 := cell_kept g6.cell (grownBy_putObj' _ D (.deferred none)) (fun r e => by cases e; exact ⟨_, hK2, rfl⟩)
    have q7 := cell_kept g7.cell (grownBy_putObj' _ D (.deferred none)) (fun r e => by cases e; exact ⟨_, hK2, rfl⟩)
    refine ⟨by simp, .inl ⟨_, _, rfl, run_takeDeferred hK2, ?_⟩⟩
    refine ⟨.tuple #[.int .i64 0, .int .i64 0], by simp [results, Tryd.results22, go_sem, q6, q7], ?_, .inl ⟨vv, evs, rfl, ?_, ?_⟩⟩
    · exact ((hlw.setCell (p := ⟨w.heap.size + 1 + 1, 0, none⟩) (by simp; omega) _).setCell (p := ⟨w.heap.size + 1 + 1 + 1, 0, none⟩) (by simp; omega) _).trans (belowK_b (w := W0) (by omega) _ D _ _ hD hK2 rfl rfl)
    · have := hsp.2 []
      rw [List.append_nil, hys] at this
      rw [this]
      rfl
    · refine hra.of ?_ (fun g c tt hg hc => ?_)
      · rw [World.putObj_heap_other (by omega), Below.heap_setCell _ _ _ _ (by show br ≠ w.heap.size + 1 + 1 + 1; omega), Below.heap_setCell _ _ _ _ (by show br ≠ w.heap.size + 1 + 1; omega)]
      · rw [World.putObj_heap_other (fun e => by subst e; rw [hK] at hc; cases hc), Below.heap_setCell _ _ _ _ (by show g ≠ w.heap.size + 1 + 1 + 1; omega), Below.heap_setCell _ _ _ _ (by show g ≠ w.heap.size + 1 + 1; omega)]
  case stop =>
    rintro D c pre W hD ⟨suf, hsuf⟩ ⟨⟨rfl, code, line, hend, h6, h7⟩, hlw⟩ hK
    have q6 := cell_kept h6.cell (grownBy_putObj' _ D (.deferred none)) (fun r e => by cases e; exact ⟨_, hK, rfl⟩)
    have q7 := cell_kept h7.cell (grownBy_putObj' _ D (.deferred none)) (fun r e => by cases e; exact ⟨_, hK, rfl⟩)
    gi_wp2
    refine ⟨by simp, .inl ⟨_, _, rfl, run_takeDeferred hK, ?_⟩⟩
    refine ⟨.tuple #[.int .i64 code, .int .i64 line], by simp [results, Tryd.results22, go_sem, q6, q7], ?_, .inr ⟨code, line, rfl, hend.1, ?_⟩⟩
    · exact hlw.trans (belowK_b (w := W0) (by omega) W D _ _ hD hK rfl rfl)
    · rw [← hsuf]
      exact hend.2 suf
end Go.Proofs.YtipndbhedaknnaaDoor
