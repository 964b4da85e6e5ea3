import Derived.Test.YtgbdlgogccgciaaGreatDoorPeQPeRPeS
import Derived.Deep.RegionLaw
import Derived.Test.YtgbdlgogccgciaaGreatDoorGenDatPeG
namespace Go.Proofs.YtgbdlgogccgciaaGreatDoor
open Go.RowKit
attribute [local go_sem ↓] Go.wp_at_zero Go.wp_at_succ

/- THE PIECES BETWEEN THE BARS THAT STAND IN NO GROUP. -/
/-- Up to token k: the pieces that are whole, and where the next begins. -/
def spl (l : List Tok) : Nat → List (Nat × Nat) × Nat
  | 0 => ([], 0)
  | k + 1 => if kAt l k = 3 ∧ depI l k = 0 then ((spl l k).1 ++ [((spl l k).2, k)], k + 1) else spl l k
def pieces (l : List Tok) : List (Nat × Nat) := (spl l l.length).1 ++ [((spl l l.length).2, l.length)]
theorem spl_le (l : List Tok) : ∀ k, (spl l k).2 ≤ k ∧ (spl l k).1.length ≤ k
  | 0 => ⟨Nat.le_refl _, Nat.le_refl _⟩
  | k + 1 => by
    have := spl_le l k
    show ((if _ then _ else _ : List (Nat × Nat) × Nat)).2 ≤ _ ∧ ((if _ then _ else _ : List (Nat × Nat) × Nat)).1.length ≤ _
    split
    · simp; omega
    · omega
theorem spl_bar {l : List Tok} {k : Nat} (h : kAt l k = 3 ∧ depI l k = 0) : spl l (k + 1) = ((spl l k).1 ++ [((spl l k).2, k)], k + 1) := by
  show (if _ then _ else _) = _
  rw [if_pos h]
theorem spl_no {l : List Tok} {k : Nat} (h : ¬(kAt l k = 3 ∧ depI l k = 0)) : spl l (k + 1) = spl l k := by
  show (if _ then _ else _) = _
  rw [if_neg h]
def pcV (G O c : Nat) (p : Nat × Nat) : Value := .slice (some ⟨G, O + p.1 * 5, none⟩) (p.2 - p.1) (c - p.1)
theorem infoTksP : (Tryz.prog.info? 30).map (fun i => (i.zero, i.size, i.bytes)) = some (some (.slice none 0 0), 1, 24) := by kernel_rfl
def SplA (w : World) (G O c : Nat) (l : List Tok) (e : Ending) (w' : World) : Prop := ∃ v, e = .returned v ∧ w'.ownsRow w.heap.size 30 1 v (pieces l).length ((pieces l).map (pcV G O c)) ∧ Below w.heap.size w w'
set_option maxRecDepth 100000 in
set_option maxHeartbeats 2000000 in
theorem l1Split_ok {G O g c : Nat} {l : List Tok} {q : Nat → Nat} (w : World) (h : TkV w G O g l q) (hl : l.length ≤ 2000) (hcap : l.length ≤ c) (hc2 : c ≤ 9223372036854775807) (hlast : (spl l l.length).2 < l.length) :
    Calls Tryz.prog 14 #[.slice (some ⟨G, O, none⟩) l.length c] w (SplA w G O c l) := by
  obtain ⟨iT, hjT, hyT0, hyT1, hyT2⟩ := info_parts infoTksP
  obtain ⟨n, hnn⟩ : ∃ n, n = l.length := ⟨_, rfl⟩
  have hn2 : n ≤ 2000 := by omega
  have hcn : n ≤ c := by omega
  have hcn2 : (n : Int) ≤ (c : Int) := by omega
  have hc3 : (c : Int) ≤ 9223372036854775807 := by omega
  have HNN : Hid _ := hnn
  have HL : Hid _ := hl
  rw [← hnn]
  have HLast : Hid _ := hlast
  clear hnn hcap hc2 hl hlast
  go_enter Tryz.func14, Tryz.ntmps14
  go_wp2
  go_loopw [3, 4, 5] (fun pv fv kv wr => ∃ k f : Nat, k ≤ n ∧ f ≤ k ∧ Hid ((spl l k).2 = f) ∧ kv = .int .i64 (k : Int) ∧ fv = .int .i64 (f : Int) ∧ Below w.heap.size w wr ∧ Hid (wr.ownsRow w.heap.size 30 1 pv (spl l k).1.length ((spl l k).1.map (pcV G O c)))) (fun _ _ kv _ => n - (intOf kv).toNat)
  case atStart => exact ⟨0, 0, by omega, by omega, rfl, rfl, rfl, (Below.refl _ _).alloc (Nat.le_refl _) _, ownsRow_newZ w _ 1 _ _ (Nat.le_refl _) rfl⟩
  case round =>
    obtain ⟨k, f, hk, hf, HF, rfl, rfl, hb, HO⟩ := hrel
    have hs := hb.size
    have hp := (spl_le l k).2
    obtain ⟨N, hN⟩ : ∃ N, N = (spl l k).1.length := ⟨_, rfl⟩
    have HOX : Hid (wr.ownsRow w.heap.size 30 1 u3 N ((spl l k).1.map (pcV G O c))) := by rw [hN]; exact HO.out
    have hN2 : N ≤ 2000 := by omega
    have HN : Hid _ := hN
    clear hN hp HO
    have hfk : (f : Int) ≤ (k : Int) := by omega
    have hfn : (f : Int) ≤ (n : Int) := by omega
    have hfc : (f : Int) ≤ (c : Int) := by omega
    have hkc : (k : Int) ≤ (c : Int) := by omega
    have j1 : ((k : Int) - (f : Int)).toNat = k - f := by omega
    have j2 : ((c : Int) - (f : Int)).toNat = c - f := by omega
    have j3 : ((n : Int) - (f : Int)).toNat = n - f := by omega
    by_cases hlt : k < n
    · have h1 : (k : Int) < (n : Int) := by omega
      have hkl : k < l.length := by have := HNN.out; omega
      have hV := h.below (hb.mono (Nat.le_refl _))
      have c0 := hV.kindC hkl
      have e3 := kB_eq (h.kin k hkl) 3 (by omega)
      have e3 : (kB (kAt l k) == 124) = decide (kAt l k = 3) := e3
      have hD := l1Depth_ok (c := c) wr hV (k := k) (ck := (k : Int)) (by omega) rfl (by have := HL.out; omega)
      have hdb := depI_bd l k
      rw [← HNN.out] at hD
      generalize hKB : kB (kAt l k) = KB at c0 e3
      have HV : Hid _ := hV
      clear hV
      by_cases hk3 : kAt l k = 3
      · have e3b : (KB == 124) = true := by rw [e3]; simpa using hk3
        by_cases hd0 : depI l k = 0
        · rw [hd0] at hD
          have HS : Hid _ := spl_bar ⟨hk3, hd0⟩
          clear e3 hk3 hd0 hKB hdb
          go_wp2_with fail
          refine hD.mono ?_
          rintro e w2 ⟨rfl, rfl⟩
          go_wp2_with (at_builtin; refine wpList_append_szW rfl (.tmp 25) (.tmp 30) 39 rfl w2 #[.slice (some ⟨G, O + f * 5, none⟩) (k - f) (c - f)] 30 rfl w2.heap.size rfl w.heap.size iT _ 1 24 Tryz.underlying39 hjT hyT0 hyT1 hyT2 rfl (by omega) _ N _ rfl HOX.out rfl rfl (by simp [Value.oneCell']) (by omega) (by omega) hs ?_; intro g' cap' w4 own4 grow4 at4)
          have HP : Hid (w4.ownsRow w.heap.size 30 1 (.slice (some ⟨g', 0, none⟩) (N + 1) cap') (spl l (k + 1)).1.length ((spl l (k + 1)).1.map (pcV G O c))) := by
            show World.ownsRow _ _ _ _ _ _ _
            rw [HS.out, HF.out, List.length_append, List.map_append, ← HN.out]
            exact own4
          have hb4 : Below w.heap.size w w4 := hb.grown grow4 hs (fun k hk => (ownsRow_blk HOX.out hk).1)
          clear own4 grow4 at4
          go_wp2
          go_roundw
          case rel => exact ⟨k + 1, k + 1, by omega, by omega, by show _ = _; rw [HS.out], by go_num, by go_num, hb4, HP⟩
          case measure => simp [intOf]; omega
        · have hd0b : (depI l k == 0) = false := by simpa using hd0
          have HS : Hid _ := spl_no (l := l) (k := k) (fun h => hd0 h.2)
          have HOY : Hid (wr.ownsRow w.heap.size 30 1 u3 (spl l (k + 1)).1.length ((spl l (k + 1)).1.map (pcV G O c))) := by
            show World.ownsRow _ _ _ _ _ _ _
            rw [HS.out, ← HN.out]; exact HOX.out
          generalize depI l k = D at *
          clear e3 hk3 hKB
          go_wp2_with fail
          refine hD.mono ?_
          rintro e w2 ⟨rfl, rfl⟩
          go_wp2
          go_roundw
          case rel => exact ⟨k + 1, f, by omega, by omega, by show _ = _; rw [HS.out]; exact HF.out, by go_num, rfl, hb, HOY⟩
          case measure => simp [intOf]; omega
      · have e3b : (KB == 124) = false := by rw [e3]; simpa using hk3
        have HS : Hid _ := spl_no (l := l) (k := k) (fun h => hk3 h.1)
        have HOY : Hid (wr.ownsRow w.heap.size 30 1 u3 (spl l (k + 1)).1.length ((spl l (k + 1)).1.map (pcV G O c))) := by
          show World.ownsRow _ _ _ _ _ _ _
          rw [HS.out, ← HN.out]; exact HOX.out
        clear e3 hKB hD hdb
        go_wp2
        go_roundw
        case rel => exact ⟨k + 1, f, by omega, by omega, by show _ = _; rw [HS.out]; exact HF.out, by go_num, rfl, hb, HOY⟩
        case measure => simp [intOf]; omega
    · have hkn : k = n := by omega
      subst hkn
      have hfk2 : f < k := by have := HLast.out; rw [← HNN.out, HF.out] at this; exact this
      have hfc2 : (f : Int) < (c : Int) := by omega
      have hfc3 : ¬(c : Int) - (f : Int) = 0 := by omega
      have hfc4 : ¬c - f = 0 := by omega
      go_wp2_with (at_builtin; refine wpList_append_szW rfl (.tmp 34) (.tmp 38) 39 rfl wr #[.slice (some ⟨G, O + f * 5, none⟩) (k - f) (c - f)] 30 rfl wr.heap.size rfl w.heap.size iT _ 1 24 Tryz.underlying39 hjT hyT0 hyT1 hyT2 rfl (by omega) _ N _ rfl HOX.out rfl rfl (by simp [Value.oneCell']) (by omega) (by omega) hs ?_; intro g' cap' w4 own4 grow4 at4)
      have HP : Hid (w4.ownsRow w.heap.size 30 1 (.slice (some ⟨g', 0, none⟩) (N + 1) cap') (pieces l).length ((pieces l).map (pcV G O c))) := by
        show World.ownsRow _ _ _ _ _ _ _
        unfold pieces
        rw [← HNN.out, HF.out, List.length_append, List.map_append, ← HN.out]
        exact own4
      have hb4 : Below w.heap.size w w4 := hb.grown grow4 hs (fun k hk => (ownsRow_blk HOX.out hk).1)
      clear own4 grow4 at4
      go_wp2
      go_ret
      exact ⟨_, rfl, HP.out, hb4⟩
end Go.Proofs.YtgbdlgogccgciaaGreatDoor
namespace Go.Proofs.YtgbdlgogccgciaaGreatDoor
open Go.RowKit

/- TOKENS OF A GRAMMAR: what the pieces are (plain mathematics). -/
theorem numN_app3 (l m : List Tok) : numN (l ++ m) (l ++ m).length = numN l l.length + numN m m.length := by rw [List.length_append, numN_app2]
theorem depI_app3 (l m : List Tok) : depI (l ++ m) (l ++ m).length = depI l l.length + depI m m.length := by rw [List.length_append, depI_app2]
theorem kAt_zero (x : Tok) (l : List Tok) : kAt (x :: l) 0 = x.kind := rfl
theorem kAt_succ (x : Tok) (l : List Tok) (k : Nat) : kAt (x :: l) (k + 1) = kAt l k := rfl
theorem numN_one (x : Tok) : numN [x] 1 = if x.kind = 1 then 1 else 0 := by show 0 + _ = _; rw [kAt_zero]; omega
theorem depI_one (x : Tok) : depI [x] 1 = if x.kind = 1 then 1 else if x.kind = 2 then -1 else 0 := by show 0 + _ = _; rw [kAt_zero]; omega
theorem gr_num {s g n g' : Nat} {l : List Tok} {ns : List NodeD} (h : Gr s g l n ns g') : g' = g + numN l l.length := by
  induction h with
  | atom hk => rw [show [_].length = 1 from rfl, numN_one, if_neg (by omega)]; omega
  | @grp g g' n o c l ns ho _ hc ih =>
    rw [show o :: (l ++ [c]) = [o] ++ (l ++ [c]) from rfl, numN_app3, numN_app3, show [o].length = 1 from rfl, show [c].length = 1 from rfl, numN_one, numN_one, if_pos ho, if_neg (by omega)]
    omega
  | bare _ ih => exact ih
  | rep _ hr ih => rw [numN_app3, show [_].length = 1 from rfl, numN_one, if_neg (by omega)]; omega
  | one _ ih => exact ih
  | more _ _ ih1 ih2 => rw [numN_app3]; omega
  | alt _ ih => exact ih
  | @alts g g1 g2 n k l m b ns ms _ hb _ ih1 ih2 =>
    rw [show l ++ b :: m = l ++ ([b] ++ m) from rfl, numN_app3, numN_app3, show [b].length = 1 from rfl, numN_one, if_neg (by omega)]
    omega
/-- A list of tokens in which what opens is closed. -/
structure Even (l : List Tok) : Prop where
  tot : depI l l.length = 0
  pre : ∀ k, k ≤ l.length → 0 ≤ depI l k
theorem Even.app {l m : List Tok} (h1 : Even l) (h2 : Even m) : Even (l ++ m) := by
  refine ⟨by rw [depI_app3, h1.tot, h2.tot]; rfl, fun k hk => ?_⟩
  by_cases e : k ≤ l.length
  · rw [depI_app _ e]; exact h1.pre k e
  · have := depI_app2 l m (k - l.length)
    rw [show l.length + (k - l.length) = k by omega, h1.tot] at this
    rw [this]
    have := h2.pre (k - l.length) (by simp at hk; omega)
    omega
theorem Even.one {x : Tok} (h1 : x.kind ≠ 1) (h2 : x.kind ≠ 2) : Even [x] := by
  refine ⟨by rw [show [x].length = 1 from rfl, depI_one, if_neg h1, if_neg h2], fun k hk => ?_⟩
  match k, hk with
  | 0, _ => exact Int.le_refl _
  | 1, _ => rw [depI_one, if_neg h1, if_neg h2]; exact Int.le_refl _
theorem grp_dep {o c : Tok} {l : List Tok} (ho : o.kind = 1) (k : Nat) (hk : k ≤ l.length) : depI (o :: (l ++ [c])) (k + 1) = 1 + depI l k := by
  have := depI_app2 [o] (l ++ [c]) k
  rw [show [o].length = 1 from rfl, depI_one, if_pos ho, depI_app _ hk, Nat.add_comm 1 k] at this
  exact this
theorem Even.grp {o c : Tok} {l : List Tok} (ho : o.kind = 1) (hc : c.kind = 2) (h : Even l) : Even (o :: (l ++ [c])) := by
  have ht : depI (o :: (l ++ [c])) (o :: (l ++ [c])).length = 0 := by
    rw [show o :: (l ++ [c]) = [o] ++ (l ++ [c]) from rfl, depI_app3, depI_app3, show [o].length = 1 from rfl, show [c].length = 1 from rfl, depI_one, depI_one, if_pos ho, if_neg (by omega), if_pos hc, h.tot]
    rfl
  refine ⟨ht, fun k hk => ?_⟩
  match k, hk with
  | 0, _ => exact Int.le_refl _
  | k + 1, hk =>
    by_cases e : k ≤ l.length
    · rw [grp_dep ho k e]; have := h.pre k e; omega
    · have : k + 1 = (o :: (l ++ [c])).length := by simp at hk ⊢; omega
      rw [this, ht]
      exact Int.le_refl _
theorem gr_even {s g n g' : Nat} {l : List Tok} {ns : List NodeD} (h : Gr s g l n ns g') : Even l := by
  induction h with
  | atom hk => exact .one (by omega) (by omega)
  | grp ho _ hc ih => exact .grp ho hc ih
  | bare _ ih => exact ih
  | rep _ hr ih => exact ih.app (.one (by omega) (by omega))
  | one _ ih => exact ih
  | more _ _ ih1 ih2 => exact ih1.app ih2
  | alt _ ih => exact ih
  | alts _ hb _ ih1 ih2 => exact ih1.app (Even.app (l := [_]) (.one (by omega) (by omega)) ih2)
theorem gr_ne {s g n g' : Nat} {l : List Tok} {ns : List NodeD} (h : Gr s g l n ns g') : l ≠ [] := by
  induction h <;> simp_all
theorem gr_nodes {s g n g' : Nat} {l : List Tok} {ns : List NodeD} (h : Gr s g l n ns g') : 0 < ns.length := by
  induction h <;> (try simp_all) <;> omega
theorem gr_len {s g n g' : Nat} {l : List Tok} {ns : List NodeD} (h : Gr s g l n ns g') : (s < 2 → ns.length + 1 ≤ 2 * l.length) ∧ (2 ≤ s → ns.length + n ≤ 2 * l.length) := by
  induction h with
  | atom hk => simp
  | grp ho _ hc ih => have := ih.2 (by omega); simp; omega
  | bare _ ih => exact ⟨fun _ => ih.1 (by omega), fun h => by omega⟩
  | rep _ hr ih => have := ih.1 (by omega); simp; omega
  | one _ ih => have := ih.1 (by omega); simp; omega
  | more _ _ ih1 ih2 => have := ih1.1 (by omega); have := ih2.2 (by omega); simp; omega
  | alt _ ih => have := ih.2 (by omega); simp; omega
  | alts _ hb _ ih1 ih2 => have := ih1.2 (by omega); have := ih2.2 (by omega); simp; omega
/-- No bar that stands in no group. -/
def NoBar (l : List Tok) : Prop := ∀ k, k < l.length → kAt l k = 3 → depI l k ≠ 0
theorem NoBar.app {l m : List Tok} (h1 : NoBar l) (he : Even l) (h2 : NoBar m) : NoBar (l ++ m) := by
  intro k hk h3
  by_cases e : k < l.length
  · rw [kAt_app _ e] at h3
    rw [depI_app _ (by omega)]
    exact h1 k e h3
  · have h4 := kAt_app2 l m (k - l.length)
    have h5 := depI_app2 l m (k - l.length)
    rw [show l.length + (k - l.length) = k by omega] at h4 h5
    rw [h4] at h3
    rw [h5, he.tot, Int.zero_add]
    exact h2 _ (by simp at hk; omega) h3
theorem NoBar.one {x : Tok} (h : x.kind ≠ 3) : NoBar [x] := by
  intro k hk h3
  have : k = 0 := by simpa using hk
  subst this
  exact absurd h3 h
theorem NoBar.grp {o c : Tok} {l : List Tok} (ho : o.kind = 1) (he : Even l) : NoBar (o :: (l ++ [c])) := by
  intro k hk h3
  match k, hk, h3 with
  | 0, _, h3 => rw [kAt_zero] at h3; omega
  | k + 1, hk, h3 =>
    by_cases e : k ≤ l.length
    · rw [grp_dep ho k e]; have := he.pre k e; omega
    · simp at hk; omega
theorem gr_bar {s g n g' : Nat} {l : List Tok} {ns : List NodeD} (h : Gr s g l n ns g') (hs : s < 3) : NoBar l := by
  induction h with
  | atom hk => exact .one (by omega)
  | grp ho h _ _ => exact .grp ho (gr_even h)
  | bare _ ih => exact ih (by omega)
  | rep h hr ih => exact (ih (by omega)).app (gr_even h) (.one (by omega))
  | one _ ih => exact ih (by omega)
  | more h1 _ ih1 ih2 => exact (ih1 (by omega)).app (gr_even h1) (ih2 (by omega))
  | alt => omega
  | alts => omega

/- LISTS JOINED BY BARS. -/
inductive Bj : List Tok → List (List Tok) → Prop
  | one (t : List Tok) : Bj t [t]
  | more {t m : List Tok} {b : Tok} {ts : List (List Tok)} : b.kind = 3 → Bj m ts → Bj (t ++ b :: m) (t :: ts)
def posL : Nat → List (List Tok) → List (Nat × Nat)
  | _, [] => []
  | s, t :: ts => (s, s + t.length) :: posL (s + t.length + 1) ts
def shP (d : Nat) (p : Nat × Nat) : Nat × Nat := (d + p.1, d + p.2)
theorem posL_shift (d : Nat) : ∀ (s : Nat) (ts : List (List Tok)), posL (d + s) ts = (posL s ts).map (shP d)
  | _, [] => rfl
  | s, t :: ts => by
    show (d + s, d + s + t.length) :: posL (d + s + t.length + 1) ts = (d + s, d + (s + t.length)) :: _
    rw [show d + s + t.length + 1 = d + (s + t.length + 1) by omega, posL_shift d (s + t.length + 1) ts, Nat.add_assoc]
theorem posL_len : ∀ (s : Nat) (ts : List (List Tok)), (posL s ts).length = ts.length
  | _, [] => rfl
  | s, t :: ts => by show (posL _ ts).length + 1 = _; rw [posL_len]; rfl
theorem spl_in {t : List Tok} (m : List Tok) (hb : NoBar t) : ∀ k, k ≤ t.length → spl (t ++ m) k = ([], 0)
  | 0, _ => rfl
  | k + 1, h => by
    rw [spl_no, spl_in m hb k (by omega)]
    rw [kAt_app _ (by omega), depI_app _ (by omega)]
    exact fun h2 => hb k (by omega) h2.1 h2.2
theorem spl_shift {t m : List Tok} {b : Tok} (hb : NoBar t) (he : Even t) (hk : b.kind = 3) : ∀ j, j ≤ m.length → spl (t ++ b :: m) (t.length + 1 + j) = ((0, t.length) :: (spl m j).1.map (shP (t.length + 1)), t.length + 1 + (spl m j).2)
  | 0, _ => by
    have h1 : kAt (t ++ b :: m) t.length = 3 := by
      have := kAt_app2 t (b :: m) 0
      rw [Nat.add_zero] at this
      rw [this]; exact hk
    have h2 : depI (t ++ b :: m) t.length = 0 := by rw [depI_app _ (Nat.le_refl _)]; exact he.tot
    rw [Nat.add_zero, spl_bar ⟨h1, h2⟩, spl_in _ hb _ (Nat.le_refl _)]
    rfl
  | j + 1, hj => by
    have ih := spl_shift (m := m) hb he hk j (by omega)
    have h1 : kAt (t ++ b :: m) (t.length + 1 + j) = kAt m j := by
      have := kAt_app2 t (b :: m) (1 + j)
      rw [← Nat.add_assoc] at this
      rw [this, Nat.add_comm 1 j]; rfl
    have h2 : depI (t ++ b :: m) (t.length + 1 + j) = depI m j := by
      have h3 := depI_app2 t ([b] ++ m) (1 + j)
      have h4 := depI_app2 [b] m j
      rw [show [b].length = 1 from rfl, depI_one, if_neg (by omega), if_neg (by omega)] at h4
      rw [h4, he.tot, ← Nat.add_assoc] at h3
      rw [show t ++ b :: m = t ++ ([b] ++ m) from rfl, h3]
      omega
    by_cases hc : kAt m j = 3 ∧ depI m j = 0
    · rw [← Nat.add_assoc, spl_bar (by rw [h1, h2]; exact hc), ih, spl_bar hc]
      simp [shP]
      omega
    · rw [← Nat.add_assoc, spl_no (by rw [h1, h2]; exact hc), ih, spl_no hc]
theorem pieces_bj {l : List Tok} {ts : List (List Tok)} (h : Bj l ts) (hc : ∀ t ∈ ts, NoBar t ∧ Even t) : pieces l = posL 0 ts := by
  induction h with
  | one t =>
    unfold pieces
    have := spl_in [] (hc t (by simp)).1 t.length (Nat.le_refl _)
    rw [List.append_nil] at this
    rw [this]
    simp [posL]
  | @more t m b ts hb _ ih =>
    have ih := ih fun t ht => hc t (by simp [ht])
    obtain ⟨h1, h2⟩ := hc t (by simp)
    unfold pieces at ih ⊢
    have hlen : (t ++ b :: m).length = t.length + 1 + m.length := by simp; omega
    rw [hlen, spl_shift h1 h2 hb m.length (Nat.le_refl _)]
    show (0, t.length) :: ((spl m m.length).1.map (shP (t.length + 1)) ++ [(t.length + 1 + (spl m m.length).2, t.length + 1 + m.length)]) = (0, 0 + t.length) :: posL (0 + t.length + 1) ts
    rw [Nat.zero_add, show posL (t.length + 1) ts = posL (t.length + 1 + 0) ts from rfl, posL_shift, ← ih]
    simp [shP]
theorem last_bj {l : List Tok} {ts : List (List Tok)} (h : Bj l ts) (hc : ∀ t ∈ ts, NoBar t ∧ Even t ∧ t ≠ []) : (spl l l.length).2 < l.length := by
  induction h with
  | one t =>
    have := spl_in [] (hc t (by simp)).1 t.length (Nat.le_refl _)
    rw [List.append_nil] at this
    rw [this]
    exact List.length_pos_iff.2 (hc t (by simp)).2.2
  | @more t m b ts hb _ ih =>
    have ih := ih fun t ht => hc t (by simp [ht])
    obtain ⟨h1, h2, _⟩ := hc t (by simp)
    have hlen : (t ++ b :: m).length = t.length + 1 + m.length := by simp; omega
    rw [hlen, spl_shift h1 h2 hb m.length (Nat.le_refl _)]
    show t.length + 1 + _ < _
    omega

/- FACTORS AND ALTERNATIVES AS LISTS. -/
inductive Fs : Nat → List Tok → List (List NodeD) → Nat → Prop
  | nil {g : Nat} : Fs g [] [] g
  | cons {g g1 g2 : Nat} {f r : List Tok} {N : List NodeD} {P : List (List NodeD)} : Gr 1 g f 0 N g1 → Fs g1 r P g2 → Fs g (f ++ r) (N :: P) g2
theorem fs_of {s g n g' : Nat} {l : List Tok} {ns : List NodeD} (h : Gr s g l n ns g') (hs : s = 2) : ∃ P, Fs g l P g' ∧ P.length = n ∧ P.flatten = ns := by
  induction h with
  | atom | grp | bare | rep | alt | alts => omega
  | @one g g' l ns h _ => exact ⟨[ns], by have := Fs.cons h .nil; rwa [List.append_nil] at this, rfl, by simp⟩
  | more h1 _ _ ih2 =>
    obtain ⟨P, hP, hl, hf⟩ := ih2 rfl
    exact ⟨_ :: P, .cons h1 hP, by simp [hl], by simp [hf]⟩
/-- What the nodes of an alternative are. -/
structure AltI (g : Nat) (l : List Tok) (N : List NodeD) (g' : Nat) : Prop where
  gr : ∃ n ns, Gr 2 g l (n + 1) ns g' ∧ N = ns ++ List.replicate n seqN
inductive As : Nat → List Tok → List (List Tok) → List (List NodeD) → Nat → Prop
  | one {g g' : Nat} {l : List Tok} {N : List NodeD} : AltI g l N g' → As g l [l] [N] g'
  | more {g g1 g2 : Nat} {l m : List Tok} {b : Tok} {N : List NodeD} {ts : List (List Tok)} {P : List (List NodeD)} : AltI g l N g1 → b.kind = 3 → As g1 m ts P g2 → As g (l ++ b :: m) (l :: ts) (N :: P) g2
theorem as_of {s g n g' : Nat} {l : List Tok} {ns : List NodeD} (h : Gr s g l n ns g') (hs : s = 3) : ∃ ts P, As g l ts P g' ∧ P.length = n ∧ P.flatten = ns := by
  induction h with
  | atom | grp | bare | rep | one | more => omega
  | alt h _ => exact ⟨_, _, .one ⟨_, _, h, rfl⟩, rfl, by simp⟩
  | alts h1 hb _ _ ih2 =>
    obtain ⟨ts, P, hP, hl, hf⟩ := ih2 rfl
    exact ⟨_, _ :: P, .more ⟨_, _, h1, rfl⟩ hb hP, by simp [hl], by simp [hf]⟩
theorem As.bj {g g' : Nat} {l : List Tok} {ts : List (List Tok)} {P : List (List NodeD)} (h : As g l ts P g') : Bj l ts ∧ ts.length = P.length ∧ ∀ t ∈ ts, NoBar t ∧ Even t ∧ t ≠ [] := by
  induction h with
  | one h =>
    obtain ⟨n, ns, h, _⟩ := h
    exact ⟨.one _, rfl, fun t ht => by simp at ht; subst ht; exact ⟨gr_bar h (by omega), gr_even h, gr_ne h⟩⟩
  | more h hb _ ih =>
    obtain ⟨n, ns, h, _⟩ := h
    refine ⟨.more hb ih.1, by simp [ih.2.1], fun t ht => ?_⟩
    simp at ht
    rcases ht with rfl | ht
    · exact ⟨gr_bar h (by omega), gr_even h, gr_ne h⟩
    · exact ih.2.2 t ht
/-- The k-th of them: where it lies, what it gives. -/
theorem As.at {g g' : Nat} {l : List Tok} {ts : List (List Tok)} {P : List (List NodeD)} (h : As g l ts P g') : ∀ k, k < P.length → ∃ a t c, l = a ++ (t ++ c) ∧ (posL 0 ts).getD k (0, 0) = (a.length, a.length + t.length) ∧ ∃ g2, AltI (g + numN a a.length) t (P.getD k []) g2 := by
  induction h with
  | @one g g' l N h =>
    intro k hk
    have : k = 0 := by simpa using hk
    subst this
    exact ⟨[], l, [], by simp, by simp [posL], g', by simpa [numN] using h⟩
  | @more g g1 g2 l m b N ts P h hb _ ih =>
    intro k hk
    cases k with
    | zero => exact ⟨[], l, b :: m, by simp, by simp [posL], g1, by simpa [numN] using h⟩
    | succ k =>
      obtain ⟨a, t, c, e1, e2, g3, h3⟩ := ih k (by simpa using hk)
      refine ⟨l ++ b :: a, t, c, by rw [e1]; simp, ?_, g3, ?_⟩
      · show (posL (0 + l.length + 1) ts).getD k (0, 0) = _
        rw [Nat.zero_add, show posL (l.length + 1) ts = posL (l.length + 1 + 0) ts from rfl, posL_shift, List.getD_eq_getElem?_getD, List.getElem?_map]
        rw [List.getD_eq_getElem?_getD] at e2
        cases hq : (posL 0 ts)[k]? with
        | none =>
          rw [hq] at e2
          have hlt : ts.length = P.length := by
            have := As.bj (by assumption : As g1 m ts P g2)
            exact this.2.1
          have hpl : ∀ s (ts : List (List Tok)), (posL s ts).length = ts.length := by
            intro s ts
            induction ts generalizing s with
            | nil => rfl
            | cons a b ih => simp [posL, ih]
          have := List.getElem?_eq_none_iff.1 hq
          rw [hpl] at this
          simp at hk
          omega
        | some p =>
          rw [hq] at e2
          have e3 : p = (a.length, a.length + t.length) := e2
          subst e3
          simp [shP]
          omega
      · obtain ⟨n, ns, hG, _⟩ := h
        have hg1 := gr_num hG
        have : g + numN (l ++ b :: a) (l ++ b :: a).length = g1 + numN a a.length := by
          rw [show l ++ b :: a = l ++ ([b] ++ a) from rfl, numN_app3, numN_app3, show [b].length = 1 from rfl, numN_one, if_neg (by omega)]
          omega
        rw [this]
        exact h3
end Go.Proofs.YtgbdlgogccgciaaGreatDoor
namespace Go.Proofs.YtgbdlgogccgciaaGreatDoor
open Go.RowKit

/- LISTS OF PARTS IN MEMORY; A NODE APPENDED. -/
def FcO (B : Nat) (W : World) (fv : Value) (P : List (List NodeD)) : Prop := ∃ pv : Nat → Value, W.ownsRow B 41 1 fv P.length ((List.range P.length).map pv) ∧ ∀ k, k < P.length → NdU (fun b => B ≤ b ∧ fv.ownBlock ≠ some b) W (pv k) (P.getD k []) ∧ 0 < (P.getD k []).length
theorem FcO.new (w : World) (B H : Nat) (hB : B ≤ H) (hH : w.heap.size = H) : FcO B (w.alloc (.cells #[] 41)) (.slice (some ⟨H, 0, none⟩) 0 0) [] :=
  ⟨fun _ => .slice none 0 0, ownsRow_newZ w _ 1 B H hB hH, fun k h => absurd h (by simp)⟩
theorem FcO.below {B : Nat} {W W' : World} {fv : Value} {P : List (List NodeD)} (h : FcO B W fv P) (hb : Below W.heap.size W W') : FcO B W' fv P := by
  obtain ⟨pv, ho, hp⟩ := h
  exact ⟨pv, ownsRow_below ho hb, fun k hk => ⟨(hp k hk).1.below hb, (hp k hk).2⟩⟩
theorem FcO.push {B : Nat} {W w' : World} {fv v : Value} {P : List (List NodeD)} {N : List NodeD} {pv : Nat → Value} {g' cap' : Nat}
    (hp : ∀ k, k < P.length → NdU (fun b => B ≤ b ∧ fv.ownBlock ≠ some b) W (pv k) (P.getD k []) ∧ 0 < (P.getD k []).length) (hv : NdU (fun b => B ≤ b ∧ fv.ownBlock ≠ some b) W v N) (hN : 0 < N.length)
    (ho : w'.ownsRow B 41 1 (.slice (some ⟨g', 0, none⟩) (P.length + 1) cap') (P.length + 1) ((List.range P.length).map pv ++ [v])) (hg : W.grownBy w' fv.ownBlock) (hat : fv.ownBlock = some g' ∨ W.heap.size ≤ g') :
    FcO B w' (.slice (some ⟨g', 0, none⟩) (P.length + 1) cap') (P ++ [N]) := by
  have key : ∀ s ns, NdU (fun b => B ≤ b ∧ fv.ownBlock ≠ some b) W s ns → NdU (fun b => B ≤ b ∧ (Value.slice (some ⟨g', 0, none⟩) (P.length + 1) cap').ownBlock ≠ some b) w' s ns := by
    intro s ns h
    have h4 : NdU (fun b => (B ≤ b ∧ fv.ownBlock ≠ some b) ∧ b < W.heap.size) W s ns := h.mono fun b hb hl => ⟨hb, hl⟩
    have h5 := h4.keep hg.size (fun b hb hl => hg.block b hl (fun e => hb.1.2 e.symm))
    refine h5.mono fun b hb _ => ⟨hb.1.1, fun e => ?_⟩
    have e2 : g' = b := by simpa [Value.ownBlock] using e
    subst e2
    rcases hat with h | h
    · exact hb.1.2 h
    · have := hb.2; omega
  have hm : (List.range (P.length + 1)).map (fun k => if k < P.length then pv k else v) = (List.range P.length).map pv ++ [v] := by
    rw [List.range_succ, List.map_append]
    congr 1
    · apply List.map_congr_left
      intro k hk
      rw [if_pos (List.mem_range.1 hk)]
    · simp
  refine ⟨fun k => if k < P.length then pv k else v, by rw [List.length_append, show [N].length = 1 from rfl, hm]; exact ho, fun k hk => ?_⟩
  by_cases e : k < P.length
  · have : (P ++ [N]).getD k [] = P.getD k [] := by simp [List.getD, List.getElem?_append_left e]
    rw [this]
    simp only [if_pos e]
    exact ⟨key _ _ (hp k e).1, (hp k e).2⟩
  · have e2 : k = P.length := by simp at hk; omega
    subst e2
    have : (P ++ [N]).getD P.length [] = N := by simp [List.getD]
    rw [this]
    simp only [if_neg e]
    exact ⟨key _ _ hv, hN⟩
theorem FcO.to {B : Nat} {W : World} {fv : Value} {P : List (List NodeD)} (h : FcO B W fv P) (h0 : 0 < P.length) : ∃ G c pv, fv = .slice (some ⟨G, 0, none⟩) P.length c ∧ PtU (fun b => B ≤ b) W G 0 P pv := by
  obtain ⟨pv, ho, hp⟩ := h
  rcases ho.2 with ⟨_, h1⟩ | ⟨g, cap, cur, rfl, hg, hh, h1, h2, h3, h4⟩
  · omega
  · refine ⟨g, cap, pv, rfl, row_lt hh, fun k hk => ?_, fun k hk => (hp k hk).1.mono fun b hb _ => hb.1, fun k hk => (hp k hk).2⟩
    rw [Nat.zero_add, ho.cellAt k (by omega)]
    simp [hk]
/-- One node appended, as a step of a region that draws. -/
theorem step_node {ops : Array Oper} {o : Oper} {a : Act} {K : Act → World → Prop} {Q : Exit → Act → World → Prop} {E : Prop} {Wc : World} (hgd : o.guard = none) (s x : Operand)
    (ho : o.op = .call { callee := .builtin .append, args := #[s, x], argTypes := #[41, 41] }) (B : Nat) (U : Nat → Prop) (v : Value) (ns : List NodeD) (hs : a.eval s = v) (hN : NdO B U Wc v ns)
    (H : Nat) (n : NodeD) (sx : Value) (hx : a.eval x = .slice (some ⟨H, 0, none⟩) 1 1) (hrow : Wc.heap[H]? = some (.cells (nd5 n sx).toArray 67 (0, 0))) (hsx : RngU (fun b => U b ∧ v.ownBlock ≠ some b) Wc sx n.set) (hlen : ns.length ≤ 100000) (hB : B ≤ Wc.heap.size)
    (h : ∀ g' cap' w', NdO B U w' (.slice (some ⟨g', 0, none⟩) (ns.length + 1) cap') (ns ++ [n]) → Wc.grownBy w' v.ownBlock → K (a.put o.dst (.slice (some ⟨g', 0, none⟩) (ns.length + 1) cap')) w') :
    if Region.wanted o (yielded ops a.tmps) = true then Oper.wp Tryz.prog o a Wc K Q else E := by
  obtain ⟨iN, hjN, hyN0, hyN1, hyN2⟩ := info_parts infoNodeP
  obtain ⟨sv, hown, hr⟩ := hN
  refine step_append_lies _ hgd s x 41 ho B 67 iN _ 5 56 Tryz.underlying41 hjN hyN0 hyN1 hyN2 rfl (by omega) v ns.length (ndC ns sv) hs hown ⟨H, 0, none⟩ 1 1 (nd5 n sx) hx rfl ?_ (nd5_one n sx hsx.one) (by omega) (by unfold maxLen; omega) (by omega) hB _ rfl ?_
  · intro j u hu
    have e1 : (⟨H, 0, none⟩ : Addr).add j = ⟨H, j, none⟩ := by unfold Addr.add; split <;> simp_all
    rw [e1, cell_of_row _ _ _ _ _ _ hrow, List.getElem?_toArray]
    exact hu
  · intro g' cap' w' own4 grow4 at4 _
    refine h g' cap' w' (NdO.more (ms := [n]) (s2 := fun _ => sx) hr (fun k hk => ?_) ?_ grow4 (at4.imp id fun e => by omega)) grow4
    · have : k = 0 := by simpa using hk
      subst this
      exact hsx
    · have : ndC [n] (fun _ => sx) = nd5 n sx := by simp [ndC, List.range_succ]
      rw [this]
      exact own4
/-- .. and in a plain region, behind the making of the slice. -/
theorem wpList_node {ops : Array Oper} {rest : List Oper} {o : Oper} {a : Act} {Q : Exit → Act → World → Prop} {Wc : World} (hgd : o.guard = none) (s x : Operand)
    (ho : o.op = .call { callee := .builtin .append, args := #[s, x], argTypes := #[41, 41] }) (B : Nat) (U : Nat → Prop) (v : Value) (ns : List NodeD) (hs : a.eval s = v) (hN : NdO B U Wc v ns)
    (H : Nat) (n : NodeD) (sx : Value) (hx : a.eval x = .slice (some ⟨H, 0, none⟩) 1 1) (hrow : Wc.heap[H]? = some (.cells (nd5 n sx).toArray 67 (0, 0))) (hsx : RngU (fun b => U b ∧ v.ownBlock ≠ some b) Wc sx n.set) (hlen : ns.length ≤ 100000) (hB : B ≤ Wc.heap.size)
    (h : ∀ g' cap' w', NdO B U w' (.slice (some ⟨g', 0, none⟩) (ns.length + 1) cap') (ns ++ [n]) → Wc.grownBy w' v.ownBlock → wpList Tryz.prog ops Q rest (a.put o.dst (.slice (some ⟨g', 0, none⟩) (ns.length + 1) cap')) w') :
    wpList Tryz.prog ops Q (o :: rest) a Wc := by
  obtain ⟨iN, hjN, hyN0, hyN1, hyN2⟩ := info_parts infoNodeP
  obtain ⟨sv, hown, hr⟩ := hN
  refine wpList_append_lies _ hgd s x 41 ho B 67 iN _ 5 56 Tryz.underlying41 hjN hyN0 hyN1 hyN2 rfl (by omega) v ns.length (ndC ns sv) hs hown ⟨H, 0, none⟩ 1 1 (nd5 n sx) hx rfl ?_ (nd5_one n sx hsx.one) (by omega) (by unfold maxLen; omega) (by omega) hB _ rfl ?_
  · intro j u hu
    have e1 : (⟨H, 0, none⟩ : Addr).add j = ⟨H, j, none⟩ := by unfold Addr.add; split <;> simp_all
    rw [e1, cell_of_row _ _ _ _ _ _ hrow, List.getElem?_toArray]
    exact hu
  · intro g' cap' w' own4 grow4 at4 _
    refine h g' cap' w' (NdO.more (ms := [n]) (s2 := fun _ => sx) hr (fun k hk => ?_) ?_ grow4 (at4.imp id fun e => by omega)) grow4
    · have : k = 0 := by simpa using hk
      subst this
      exact hsx
    · have : ndC [n] (fun _ => sx) = nd5 n sx := by simp [ndC, List.range_succ]
      rw [this]
      exact own4
theorem infoNdsP : (Tryz.prog.info? 41).map (fun i => (i.zero, i.size, i.bytes)) = some (some (.slice none 0 0), 1, 24) := by kernel_rfl
/-- A slice of nodes appended to a list of parts. -/
theorem wpList_part {ops : Array Oper} {rest : List Oper} {o : Oper} {a : Act} {Q : Exit → Act → World → Prop} {W W0 : World} (hgd : o.guard = none) (s x : Operand)
    (ho : o.op = .call { callee := .builtin .append, args := #[s, x], argTypes := #[63, 63] }) (B : Nat) (fv v : Value) (P : List (List NodeD)) (N : List NodeD) (hW : W = W0.alloc (.cells #[v] 41)) (hs : a.eval s = fv) (hF : FcO B W0 fv P)
    (hx : a.eval x = .slice (some ⟨W0.heap.size, 0, none⟩) 1 1) (hv : NdU (fun b => B ≤ b ∧ fv.ownBlock ≠ some b) W0 v N) (hN : 0 < N.length) (hlen : P.length ≤ 100000) (hB : B ≤ W0.heap.size)
    (h : ∀ g' cap' w', FcO B w' (.slice (some ⟨g', 0, none⟩) (P.length + 1) cap') (P ++ [N]) → W0.grownBy w' fv.ownBlock → (fv.ownBlock = some g' ∨ W0.heap.size ≤ g') → wpList Tryz.prog ops Q rest (a.put o.dst (.slice (some ⟨g', 0, none⟩) (P.length + 1) cap')) w') :
    wpList Tryz.prog ops Q (o :: rest) a W := by
  obtain ⟨iN, hjN, hyN0, hyN1, hyN2⟩ := info_parts infoNdsP
  obtain ⟨pv, hown, hp⟩ := hF
  refine wpList_append_szW hgd s x 63 ho W0 #[v] 41 hW W0.heap.size rfl B iN _ 1 24 Tryz.underlying63 hjN hyN0 hyN1 hyN2 rfl (by omega) fv P.length _ hs hown hx rfl ?_ (by omega) (by omega) hB ?_
  · intro u hu
    have : u = v := by simpa using hu
    subst this
    obtain ⟨b, cap, sv, rfl, _⟩ := hv
    rfl
  · intro g' cap' w' own4 grow4 at4
    exact h g' cap' w' (FcO.push hp hv hN own4 grow4 at4) grow4 at4
end Go.Proofs.YtgbdlgogccgciaaGreatDoor
namespace Go.Proofs.YtgbdlgogccgciaaGreatDoor
open Go.RowKit

/-- A call of a Go function as one step of a region that draws its order; what it returns isn't known ahead. -/
theorem step_goE {P : Program} {ops : Array Oper} {o : Oper} {a : Act} {w : World} {K : Act → World → Prop} {Q : Exit → Act → World → Prop} {E : Prop} (hgd : o.guard = none) (f : FuncId) (xs : Array Operand) (ats : Array TypeId)
    (ho : o.op = .call { callee := .value (.func f), args := xs, argTypes := ats }) (args : Array Value) (hargs : (#[] ++ xs.map a.eval ++ #[] : Array Value) = args) (R : Value → World → Prop) (hen : (callFunc f args).run P w = .ok (.enter f args) w)
    (hc : Calls P f args w fun e w' => ∃ v, e = .returned v ∧ R v w') (h : ∀ v w', R v w' → K (a.put o.dst v) w') :
    if Region.wanted o (yielded ops a.tmps) = true then Oper.wp P o a w K Q else E := by
  have hw : Region.wanted o (yielded ops a.tmps) = true := by simp [Region.wanted, hgd]
  rw [if_pos hw]
  obtain ⟨dst, op, type, pos, after, guard⟩ := o
  simp only at ho
  subst ho
  unfold Oper.wp
  rw [execOp_call_go, hargs]
  rw [hen, Oper.upon_enter]
  refine hc.mono ?_
  rintro e w' ⟨v, rfl, hR⟩
  exact h v w' hR
end Go.Proofs.YtgbdlgogccgciaaGreatDoor
