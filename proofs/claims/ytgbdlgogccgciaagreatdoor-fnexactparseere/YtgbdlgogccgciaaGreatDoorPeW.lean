import Derived.Test.YtgbdlgogccgciaaGreatDoorPeTPeUPeVStepE
import Derived.Deep.Cut
import Derived.Deep.CutRange
namespace Go.Proofs.YtgbdlgogccgciaaGreatDoor
open Go.RowKit
attribute [local go_sem ↓] Go.wp_at_zero Go.wp_at_succ

/- THE NODES OF A SEQUENCE, THE SPECIFICATION's SIDE. -/
theorem hid {p : Prop} (h : p) : Hid p := h
theorem ownsRow_mono {w : World} {base base' size n : Nat} {e : TypeId} {v : Value} {xs : List Value} (h : w.ownsRow base e size v n xs) (hb : base' ≤ base) : w.ownsRow base' e size v n xs := by
  refine ⟨h.1, ?_⟩
  rcases h.2 with h | ⟨g, cap, cur, hv, hg, r⟩
  · exact .inl h
  · exact .inr ⟨g, cap, cur, hv, Nat.le_trans hb hg, r⟩
theorem gr_head {s g n g' : Nat} {l : List Tok} {ns : List NodeD} (h : Gr s g l n ns g') : kAt l 0 = 0 ∨ kAt l 0 = 1 := by
  induction h with
  | atom hk => exact .inl hk
  | grp ho _ _ _ => exact .inr ho
  | bare _ ih => exact ih
  | rep h _ ih => rw [kAt_app _ (List.length_pos_iff.2 (gr_ne h))]; exact ih
  | one _ ih => exact ih
  | more h _ ih _ => rw [kAt_app _ (List.length_pos_iff.2 (gr_ne h))]; exact ih
  | alt _ ih => exact ih
  | alts h _ _ ih _ => rw [kAt_app _ (List.length_pos_iff.2 (gr_ne h))]; exact ih
theorem fs_head {g g' : Nat} {r : List Tok} {P : List (List NodeD)} (h : Fs g r P g') : r = [] ∨ kAt r 0 = 0 ∨ kAt r 0 = 1 := by
  cases h with
  | nil => exact .inl rfl
  | cons h _ => right; rw [kAt_app _ (List.length_pos_iff.2 (gr_ne h))]; exact gr_head h
theorem gr_core {s g n g' : Nat} {f : List Tok} {N : List NodeD} (h : Gr s g f n N g') (hs : s = 1) : ∃ f0 N0, Gr 0 g f0 0 N0 g' ∧ ((f = f0 ∧ N = N0) ∨ ∃ rp : Tok, rp.kind = 4 ∧ f = f0 ++ [rp] ∧ N = N0 ++ [repN rp.mn rp.mx]) := by
  cases h with
  | atom | grp | one | more | alt | alts => omega
  | bare h => exact ⟨_, _, h, .inl ⟨rfl, rfl⟩⟩
  | rep h hr => exact ⟨_, _, h, .inr ⟨_, hr, rfl, rfl⟩⟩
theorem gr_zero {s g n g' : Nat} {f : List Tok} {N : List NodeD} (h : Gr s g f n N g') (hs : s = 0) : (∃ x : Tok, x.kind = 0 ∧ f = [x] ∧ N = [setN x.set] ∧ g' = g) ∨ ∃ (o cl : Tok) (l : List Tok) (ns : List NodeD) (m : Nat), o.kind = 1 ∧ cl.kind = 2 ∧ f = o :: (l ++ [cl]) ∧ Gr 3 (g + 1) l (m + 1) ns g' ∧ N = ns ++ List.replicate m altN ++ [grpN (g + 1)] := by
  cases h with
  | bare | rep | one | more | alt | alts => omega
  | atom hk => exact .inl ⟨_, hk, rfl, rfl, rfl⟩
  | grp ho h hc => exact .inr ⟨_, _, _, _, _, ho, hc, rfl, h, rfl⟩
def SeqA (w : World) (N : List NodeD) (e : Ending) (w' : World) : Prop := ∃ v, e = .returned v ∧ NdU (fun b => w.heap.size ≤ b) w' v N ∧ Below w.heap.size w w'
theorem enterJoin (xs : Array Value) (w : World) : (callFunc 27 xs).run Tryz.prog w = .ok (.enter 27 xs) w := by kernel_rfl
/-- Where the loop stands. -/
structure SqS (l : List Tok) (g g' : Nat) (P : List (List NodeD)) (k : Nat) (a r : List Tok) (P1 P2 : List (List NodeD)) (g1 : Nat) : Prop where
  e : l = a ++ r
  k : k = a.length
  fs : Fs g1 r P2 g'
  p : P = P1 ++ P2
  num : g1 = g + numN a a.length

set_option maxRecDepth 100000 in
set_option maxHeartbeats 8000000 in
theorem l1Seq_step {G O g c : Nat} {l : List Tok} {q : Nat → Nat} {n g' : Nat} {ns : List NodeD} (w : World) (hG : Gr 2 g l (n + 1) ns g') (h : TkV w G O g l q) (hl : l.length ≤ 2000) (hcap : l.length ≤ c) (hc2 : c ≤ 9223372036854775807)
    (hrec : ∀ (O2 g2 c2 : Nat) (l2 : List Tok) (N2 : List NodeD) (g3 : Nat) (q2 : Nat → Nat) (W : World), l2.length < l.length → AltI g2 l2 N2 g3 → TkV W G O2 g2 l2 q2 → l2.length ≤ c2 → c2 ≤ 9223372036854775807 → Calls Tryz.prog 15 #[.slice (some ⟨G, O2, none⟩) l2.length c2] W (SeqA W N2)) :
    Calls Tryz.prog 15 #[.slice (some ⟨G, O, none⟩) l.length c] w (SeqA w (ns ++ List.replicate n seqN)) := by
  obtain ⟨P, hFs, hPn, hPf⟩ := fs_of hG rfl
  have hGl := (gr_len hG).2 (Nat.le_refl _)
  obtain ⟨n0, hnn⟩ : ∃ n, n = l.length := ⟨_, rfl⟩
  have hn2 : n0 ≤ 2000 := by omega
  have hcn : n0 ≤ c := by omega
  have hcn2 : (n0 : Int) ≤ (c : Int) := by omega
  have hc3 : (c : Int) ≤ 9223372036854775807 := by omega
  have HNN := hid hnn
  have HL := hid hl
  have HPn := hid hPn
  have HPf := hid hPf
  have hP4 : P.length ≤ 4000 := by omega
  have hF4 : P.flatten.length ≤ 4000 := by rw [hPf]; omega
  have HG := hid hG
  have HREC := hid hrec
  rw [← hnn]
  clear hnn hcap hc2 hl hPn hPf hG hrec hGl
  go_enter Tryz.func15, Tryz.ntmps15
  go_wp2
  go_loopw [3, 4] (fun fv kv wr => ∃ (k : Nat) (a r : List Tok) (P1 P2 : List (List NodeD)) (g1 : Nat), Hid (SqS l g g' P k a r P1 P2 g1) ∧ kv = .int .i64 (k : Int) ∧ Below w.heap.size w wr ∧ Hid (FcO w.heap.size wr fv P1)) (fun _ kv _ => n0 - (intOf kv).toNat)
  case atStart => exact ⟨0, [], l, [], P, g, ⟨rfl, rfl, hFs, rfl, rfl⟩, rfl, (Below.refl _ _).alloc (Nat.le_refl _) _, FcO.new w _ _ (Nat.le_refl _) rfl⟩
  case round =>
    obtain ⟨k, a, r, P1, P2, g1, HQ, rfl, hb, HO⟩ := hrel
    have hs := hb.size
    have hkl : k + r.length = n0 := by have := HQ.out.k; have := HNN.out; have := congrArg List.length HQ.out.e; simp at this; omega
    have hP1 : P1.length + P2.length = P.length := by have := congrArg List.length HQ.out.p; simp at this; omega
    by_cases hlt : k < n0
    case neg =>
      have h1 : ¬(k : Int) < (n0 : Int) := by omega
      have hr0 : r = [] := List.eq_nil_of_length_eq_zero (by omega)
      have hp : P1 = P ∧ 0 < P.length := by
        have h1 := HQ.out.fs
        rw [hr0] at h1
        have h2 := HQ.out.p
        have h3 := HPn.out
        cases hP2 : P2 with
        | nil => rw [hP2] at h2; exact ⟨by rw [h2]; simp, by omega⟩
        | cons N P2 =>
          rw [hP2] at h1
          generalize he : ([] : List Tok) = r0 at h1
          cases h1 with
          | cons hg _ =>
            have := congrArg List.length he
            have := List.length_pos_iff.2 (gr_ne hg)
            simp at *
            omega
      obtain ⟨rfl, hp0⟩ := hp
      obtain ⟨GF, cF, pvF, hfv, hPt⟩ := HO.out.to hp0
      subst hfv
      have hJ := l1Join_ok (c := cF) 2 wr hPt (by omega) (by omega)
      clear hkl hP1 hr0
      have HJ : Hid (P1.flatten ++ List.replicate (P1.length - 1) (kindN 2) = ns ++ List.replicate n seqN) := by show _ = _; rw [HPf.out, HPn.out]; rfl
      generalize P1.length = PL at *
      go_wp2_with fail
      refine hJ.mono ?_
      rintro e w2 ⟨v, rfl, hN, hb2⟩
      rw [HJ.out] at hN
      have hpos : 0 < (ns ++ List.replicate n seqN).length := by have := gr_nodes HG.out; simp; omega
      have hV := hN.to hpos (U' := fun b => w.heap.size ≤ b) (fun b hb _ => by
        rcases hb with hb | hb
        · obtain ⟨sv, ho, _⟩ := hN
          have := (ownsRow_blk ho hb).1
          omega
        · exact hb.1)
      go_wp2
      go_ret
      exact ⟨v, rfl, hV, below_step hb hs hb2⟩
    have h1 : (k : Int) < (n0 : Int) := by omega
    obtain ⟨f, r2, N, P3, g2, hr, hP2, hG1, hF2⟩ : ∃ f r2 N P3 g2, r = f ++ r2 ∧ P2 = N :: P3 ∧ Gr 1 g1 f 0 N g2 ∧ Fs g2 r2 P3 g' := by
      have h1 := HQ.out.fs
      cases h1 with
      | nil => simp at hkl; omega
      | cons hg hf => exact ⟨_, _, _, _, _, rfl, rfl, hg, hf⟩
    obtain ⟨f0, N0, hG0, hfN⟩ := gr_core hG1 rfl
    obtain ⟨m, hm⟩ : ∃ m, m = f0.length := ⟨_, rfl⟩
    have hm0 : 0 < m := by rw [hm]; exact List.length_pos_iff.2 (gr_ne hG0)
    obtain ⟨r3, hr3⟩ : ∃ r3, r = f0 ++ r3 := by
      rcases hfN with ⟨e, _⟩ | ⟨rp, _, e, _⟩
      · exact ⟨r2, by rw [hr, e]⟩
      · exact ⟨rp :: r2, by rw [hr, e]; simp⟩
    have hkm : k + m ≤ n0 := by have := congrArg List.length hr3; simp at this; omega
    have hN0 : N0.length ≤ 4000 := by have := (gr_len hG0).1 (by omega); omega
    have hP2l : P1.length + 1 ≤ P.length := by rw [hP2] at hP1; simp at hP1; omega
    have hV0 : ∀ W, Below w.heap.size w W → TkV W G O g l q := fun W hW => h.below hW
    have hVr : ∀ W, Below w.heap.size w W → TkV W G (O + k * 5) g1 r (fun j => q (k + j)) := fun W hW => by
      have h2 := hV0 W hW
      rw [HQ.out.e, show r = r ++ [] by simp] at h2
      have := h2.sub
      rw [← HQ.out.num, ← HQ.out.k] at this
      exact this
    have HV0 := hid hV0
    have HVr := hid hVr
    have hkl2 : k < l.length := by have := HNN.out; omega
    have hkk : kAt l k = kAt f0 0 := by
      rw [HQ.out.e, HQ.out.k, show a.length = a.length + 0 from rfl, kAt_app2, hr3, kAt_app _ (List.length_pos_iff.2 (gr_ne hG0))]
    have c0 := (hV0 _ (hb.alloc hs (.cells #[] 67))).kindC hkl2
    rw [hkk] at c0
    have hK7 : kAt f0 0 < 7 := by rcases gr_head hG0 with e | e <;> omega
    have e1 : (kB (kAt f0 0) == 40) = decide (kAt f0 0 = 1) := kB_eq hK7 1 (by omega)
    generalize hKB : kB (kAt f0 0) = KB at c0 e1
    generalize hbK : decide (kAt f0 0 = 1) = bK at e1
    have HE : Hid (r = f0 ++ r3) := hr3
    have HR : Hid (r = f ++ r2) := hr
    have HP2 := hid hP2
    have HG0 := hid hG0
    have HfN := hid hfN
    have HM := hid hm
    have HbK := hid hbK
    have HF2 := hid hF2
    have HKL := hid hkl
    clear hV0 hVr hkl2 hkk hK7 hKB hbK hr3 hr hP2 hG0 hfN hm hG1 hF2 hkl hP1
    go_upto_region 5 with fail
    obtain ⟨W1, hW1⟩ : ∃ W1, W1 = wr.alloc (.cells #[] 67) := ⟨_, rfl⟩
    have hN1 : NdO wr.heap.size (fun b => wr.heap.size ≤ b) W1 (.slice (some ⟨wr.heap.size, 0, none⟩) 0 0) [] := by rw [hW1]; exact NdO.new wr _ _ _ (Nat.le_refl _) rfl
    have hbW : Below wr.heap.size wr W1 := by rw [hW1]; exact (Below.refl _ _).alloc (Nat.le_refl _) _
    have hsW : wr.heap.size < W1.heap.size := by rw [hW1]; simp
    rw [← hW1] at c0 ⊢
    clear hW1
    go_cut [21] from 15 to 20 (fun v wx => v = .bool bK ∧ wx = W1)
    case first =>
      go_wp2
      go_meet
      case rel => exact ⟨rfl, rfl⟩
    obtain ⟨rfl, hwc⟩ := hcut
    subst hwc
    rename_i hK0
    refine hK0 _ _ ?_
    have HN1 := hid hN1
    clear hN1 e1
    go_cut [4, 5] from 15 to 75 (fun kv fv wx => kv = .int .i64 ((k + m : Nat) : Int) ∧ Hid (NdO wr.heap.size (fun b => wr.heap.size ≤ b) wx fv N0) ∧ Below wr.heap.size wr wx)
    case first =>
      rcases gr_zero HG0.out rfl with ⟨x, hx0, hf0, hN0e, _⟩ | ⟨o, cl, li, nsi, mi, ho, hcl, hf0, hG3, hN0e⟩
      · have hb0 : bK = false := by rw [← HbK.out, hf0]; simp [kAt, hx0]
        subst hb0
        have hm1 : m = 1 := by rw [HM.out, hf0]; rfl
        subst hm1
        have hVw := HVr.out wc (below_step hb hs hbW)
        have hrl : 0 < r.length := by rw [HE.out, hf0]; simp
        have hx : r.getD 0 tokZ = x := by rw [HE.out, hf0]; rfl
        have c2 : wc.cell? ⟨G, O + k * 5 + 2, none⟩ = some (.slice (some ⟨q (k + 0), 0, none⟩) 256 256) := by
          have c2 := hVw.setC hrl
          rw [hx, Nat.zero_mul, Nat.add_zero] at c2
          rw [c2]; unfold setV; rw [if_pos hx0]
        have hBR := hVw.set 0 hrl (by unfold kAt; rw [hx]; exact hx0)
        rw [hx] at hBR
        generalize q (k + 0) = q0 at c2 hBR
        go_wp2_with fail
        refine (l1Ranges_ok wc hBR).mono ?_
        rintro e w2 ⟨rv, rfl, hRO, b2⟩
        have hRU : RngU (fun b => wc.heap.size ≤ b) w2 rv (rngF x.set 256) := hRO.to fun b hb => (ownsRow_blk hRO hb).1
        obtain ⟨ao, cp, hrv, _⟩ := id hRU
        subst hrv
        have hbl := b2.size
        have hND := NdO.below (NdO.below HN1.out b2) (W' := w2.alloc (.cells #[.int .i64 1, .slice ao (rngF x.set 256).length cp, .int .i64 0, .int .i64 0, .int .i64 0] 67)) ((Below.refl _ _).alloc (Nat.le_refl _) _)
        have hRU2 : RngU (fun b => wr.heap.size ≤ b ∧ (Value.slice (some ⟨wr.heap.size, 0, none⟩) 0 0).ownBlock ≠ some b) (w2.alloc (.cells #[.int .i64 1, .slice ao (rngF x.set 256).length cp, .int .i64 0, .int .i64 0, .int .i64 0] 67)) (.slice ao (rngF x.set 256).length cp) (rngF x.set 256) := by
          refine (hRU.keep (W' := w2.alloc _) (by simp) fun b _ hl => Below.heap_alloc _ _ _ hl).mono fun b hb _ => ⟨by have := hb; omega, fun e => ?_⟩
          have e2 : wr.heap.size = b := by simpa [Value.ownBlock] using e
          have := hb
          omega
        have HND := hid hND
        have HRU2 := hid hRU2
        have HRU := hid hRU
        have HRO := hid hRO
        clear hND hRU2 hRU hRO
        generalize hRL : (rngF x.set 256).length = RL at *
        go_wp2_with (at_builtin; refine wpList_node rfl (.tmp 64) (.tmp 72) rfl wr.heap.size (fun b => wr.heap.size ≤ b) (.slice (some ⟨wr.heap.size, 0, none⟩) 0 0) [] rfl HND.out w2.heap.size (setN x.set) (.slice ao RL cp) rfl (heap_alloc_new _ _) HRU2.out (by simp) (by simp; omega) ?_; intro g' cap' w4 hN4 grow4)
        have hb4 : Below wr.heap.size wr w4 := (((below_step hbW hbW.size b2).alloc (by omega) _).grown grow4 (by simp; omega) (fun k hk => by simp [Value.ownBlock] at hk; omega))
        have HN4 := hid hN4
        clear hN4 grow4
        go_wp2
        go_meet
        case rel => exact ⟨by go_num, by rw [hN0e]; exact HN4, hb4⟩
      · have hb0 : bK = true := by rw [← HbK.out, hf0]; simp [kAt, ho]
        subst hb0
        have hmL : m = li.length + 2 := by rw [HM.out, hf0]; simp
        obtain ⟨ts, PA, hAs, hPAn, hPAf⟩ := as_of hG3 rfl
        have hev := gr_even hG3
        have hgl := (gr_len hG3).2 (by omega)
        have hli0 : 0 < li.length := List.length_pos_iff.2 (gr_ne hG3)
        have hdep : ∀ j, 1 ≤ j → j < m → 0 < depI r j := by
          intro j h1 h2
          rw [HE.out, depI_app _ (by rw [← HM.out]; omega), hf0, show j = j - 1 + 1 by omega, grp_dep ho _ (by omega)]
          have := hev.pre (j - 1) (by omega)
          omega
        have hdepm : depI r m = 0 := by
          rw [HE.out, depI_app _ (by rw [← HM.out]; omega), HM.out, hf0]
          exact (Even.grp ho hcl hev).tot
        have hrl : r.length = n0 - k := by have := HKL.out; omega
        have hrm : m ≤ r.length := by rw [HE.out, HM.out]; simp
        have hbc := below_step hb hs hbW
        have hVw := HVr.out wc hbc
        have hD : ∀ (j : Nat) (z : Int), j ≤ m → z = j → Calls Tryz.prog 12 #[.slice (some ⟨G, O + k * 5, none⟩) (n0 - k) (c - k), .int .i64 z] wc fun e w' => e = .returned (.int .i64 (depI r j)) ∧ w' = wc := by
          intro j z hj hz
          have := l1Depth_ok (c := c - k) wc hVw (k := j) (ck := z) (by omega) hz (by omega)
          rw [hrl] at this
          exact this
        have HD := hid hD
        have Hdep := hid hdep
        have Hdepm := hid hdepm
        have HVw := hid hVw
        have HAs := hid hAs
        have HPAn := hid hPAn
        have HPAf := hid hPAf
        have Hf0 := hid hf0
        have HN0e := hid hN0e
        have HML := hid hmL
        have Hgl := hid hgl
        have i1 : (k : Int) ≤ (n0 : Int) := by omega
        have i2 : (k : Int) ≤ (c : Int) := by omega
        have i3 : (k : Int) < (c : Int) := by omega
        have i4 : ((n0 : Int) - (k : Int)).toNat = n0 - k := by omega
        have i5 : ((c : Int) - (k : Int)).toNat = c - k := by omega
        have i6 : ¬c - k = 0 := by omega
        have hml2 : 2 < m := by omega
        clear hD hdep hdepm hVw hAs hPAn hPAf hf0 hN0e hmL hrl hrm hev hgl hG3 hli0
        go_wp2
        go_loop [6] (fun ev => ∃ j : Nat, 1 ≤ j ∧ j ≤ m ∧ ev = .int .i64 ((k + j : Nat) : Int)) (fun ev => k + m - (intOf ev).toNat)
        case atStart => exact ⟨1, by omega, by omega, by go_num⟩
        case round =>
          obtain ⟨j, hj1, hj2, rfl⟩ := hrel
          have hC := HD.out j (((k + j : Nat) : Int) - (k : Int)) hj2 (by omega)
          have i7 : ((k + j : Nat) : Int) ≤ 4000 := by omega
          by_cases hjm : j < m
          · have hd := Hdep.out j hj1 hjm
            generalize hKJ : k + j = KJ at *
            generalize depI r j = D at *
            go_wp2_with fail
            refine hC.mono ?_
            rintro e w2 ⟨rfl, hw⟩
            rw [hw]
            clear hw w2
            go_wp2
            go_round
            case rel => exact ⟨j + 1, by omega, by omega, by go_num⟩
            case measure => simp [intOf]; omega
          · have hje : j = m := by omega
            subst hje
            rw [Hdepm.out] at hC
            generalize hKJ : k + j = KJ at *
            go_wp2_with fail
            refine hC.mono ?_
            rintro e w2 ⟨rfl, hw⟩
            rw [hw]
            clear hw w2 hC
            go_wp2_with fail
            obtain ⟨WI, hWI⟩ : ∃ WI, WI = wc.alloc (.cells #[] 41) := ⟨_, rfl⟩
            have hFI : FcO wr.heap.size WI (.slice (some ⟨wc.heap.size, 0, none⟩) 0 0) [] := by rw [hWI]; exact FcO.new wc _ _ (by omega) rfl
            have hbI : Below wr.heap.size wr WI := by rw [hWI]; exact hbW.alloc (by omega) _
            have hsI : WI.heap.size = wc.heap.size + 1 := by rw [hWI]; simp
            have hVl : ∀ W, Below w.heap.size w W → TkV W G (O + (k + 1) * 5) (g1 + 1) li (fun j => q (k + (1 + j))) := by
              intro W hW
              have h2 := HVr.out W hW
              have e1 : r = [o] ++ (li ++ ([cl] ++ r3)) := by rw [HE.out, Hf0.out]; simp
              rw [e1] at h2
              have h3 := h2.sub
              rw [show [o].length = 1 from rfl, numN_one, if_pos ho, show O + k * 5 + 1 * 5 = O + (k + 1) * 5 by omega] at h3
              exact h3
            have hz : ∀ W, Below w.heap.size w W → W.cell? ⟨G, O + k * 5 + 3, none⟩ = some (.int .i64 ((g1 + 1 : Nat) : Int)) := by
              intro W hW
              have h2 := HVr.out W hW
              have e1 : r = o :: (li ++ ([cl] ++ r3)) := by rw [HE.out, Hf0.out]; simp
              have h3 := h2.minC (k := 0) (by rw [e1]; simp)
              have h4 : mS g1 r 0 = ((g1 + 1 : Nat) : Int) := by
                rw [e1]
                unfold mS
                rw [if_pos (show kAt (o :: (li ++ ([cl] ++ r3))) 0 = 1 from ho)]
                show ((g1 + (0 + if kAt (o :: (li ++ ([cl] ++ r3))) 0 = 1 then 1 else 0) : Nat) : Int) = _
                rw [if_pos (show kAt (o :: (li ++ ([cl] ++ r3))) 0 = 1 from ho), Nat.zero_add]
              rw [h4, Nat.zero_mul, Nat.add_zero] at h3
              exact h3
            have hLI : li.length = KJ - 1 - (k + 1) := by have := HML.out; omega
            obtain ⟨hBj, htsn, htsa⟩ := HAs.out.bj
            have hS := l1Split_ok (c := c - (k + 1)) WI (hVl WI (below_step hb hs hbI)) (by omega) (by omega) (by omega) (last_bj hBj htsa)
            rw [hLI] at hS
            have hpc := pieces_bj hBj fun t ht => ⟨(htsa t ht).1, (htsa t ht).2.1⟩
            rw [← hWI]
            have HS := hid hS
            have HVl := hid hVl
            have Hz := hid hz
            have HLI := hid hLI
            have Hpc := hid hpc
            have Htsn := hid htsn
            have HFI := hid hFI
            clear hS hVl hz hLI hpc htsn htsa hBj hFI hWI
            refine HS.out.mono ?_
            rintro e w2 ⟨pv, rfl, hPO, hb2⟩
            rw [Hpc.out] at hPO
            have hpl : (posL 0 ts).length = PA.length := by rw [posL_len]; exact Htsn.out
            obtain ⟨M, hM⟩ : ∃ M, M = PA.length := ⟨_, rfl⟩
            rw [hpl, ← hM] at hPO
            have hM0 : 0 < M := by have := HPAn.out; omega
            have hM2 : M ≤ 4000 := by have := Hgl.out; have := HPAn.out; have := HLI.out; omega
            obtain ⟨gp, cp, hpv, hgp1, hgp2⟩ := hPO.form hM0
            subst hpv
            have hcells : ∀ t, t < M → w2.cell? ⟨gp, t, none⟩ = some (pcV G (O + (k + 1) * 5) (c - (k + 1)) ((posL 0 ts).getD t (0, 0))) := by
              intro t ht
              rw [hPO.cellAt t (by omega), List.getElem?_map, List.getD_eq_getElem?_getD, List.getElem?_eq_getElem (by omega)]
              rfl
            have Hcells := hid hcells
            have HM2 := hid hM
            have hbz0 := below_step hbI hbI.size hb2
            clear hcells hPO hpl hM
            obtain ⟨R0, hR0⟩ : ∃ R0, R0 = wr := ⟨_, rfl⟩
            subst hR0
            go_wp2
            go_loopw [7, 43] (fun iv xv wz => ∃ t : Nat, t ≤ M ∧ xv = .int .i64 (t : Int) ∧ Below R0.heap.size R0 wz ∧ w2.heap.size ≤ wz.heap.size ∧ Hid (FcO R0.heap.size wz iv (PA.take t) ∧ iv.ownBlock ≠ some gp ∧ wz.heap[gp]? = w2.heap[gp]?)) (fun _ xv _ => M - (intOf xv).toNat)
            case atStart => exact ⟨0, by omega, rfl, hbz0, Nat.le_refl _, ⟨FcO.below HFI.out hb2, fun e => by simp [Value.ownBlock] at e; omega, rfl⟩⟩
            case round =>
              obtain ⟨t, ht, rfl, hbz, hwz, HT⟩ := hrel
              have hbzw := below_step hb hs hbz
              have hsz := hbz.size
              by_cases htM : t < M
              · have htI : (t : Int) < (M : Int) := by omega
                have htP : t < PA.length := by have := HM2.out; omega
                obtain ⟨a2, t2, c2, hli, hpos, g3, hAlt⟩ := HAs.out.at t htP
                have c5 := Hcells.out t htM
                rw [hpos] at c5
                have c5 : wr.cell? ⟨gp, t, none⟩ = some (.slice (some ⟨G, O + (k + 1) * 5 + a2.length * 5, none⟩) t2.length (c - (k + 1) - a2.length)) := by
                  rw [World.cell?_of_block (w := w2) HT.out.2.2, c5]
                  unfold pcV
                  rw [Nat.add_sub_cancel_left]
                have hV2 := HVl.out wr hbzw
                rw [hli] at hV2
                have hV3 := hV2.sub
                have hl2 : a2.length + t2.length ≤ li.length := by rw [hli]; simp
                have hlb := HLI.out
                have hnl := HNN.out
                have hC := HREC.out _ _ (c - (k + 1) - a2.length) t2 _ _ _ wr (by omega) hAlt hV3 (by omega) (by omega)
                have hNp : 0 < (PA.getD t []).length := by
                  obtain ⟨nn, nss, hgr, e⟩ := hAlt
                  rw [e, List.length_append]
                  have := gr_nodes hgr
                  omega
                have htk : PA.take (t + 1) = PA.take t ++ [PA.getD t []] := by
                  rw [List.take_succ_eq_append_getElem htP, List.getD_eq_getElem?_getD, List.getElem?_eq_getElem htP]; rfl
                have Htk := hid htk
                have htl : (PA.take t).length = t := by rw [List.length_take]; omega
                generalize PA.getD t [] = NT at *
                generalize t2.length = T2 at *
                generalize c - (k + 1) - a2.length = C2 at *
                generalize O + (k + 1) * 5 + a2.length * 5 = O2 at *
                clear hV2 hV3 hli hpos hAlt htk hlb hnl hl2
                go_wp2_with fail
                refine hC.mono ?_
                rintro e w5 ⟨v5, rfl, hNU, hb5⟩
                obtain ⟨b5, c5x, s5, hv5, r1, r2x, r3x, r4, r5, r6⟩ := id hNU
                subst hv5
                have hNU2 : NdU (fun b => R0.heap.size ≤ b ∧ u7.ownBlock ≠ some b) w5 (.slice (some ⟨b5, 0, none⟩) NT.length c5x) NT := hNU.mono fun b hb _ => ⟨by omega, fun e => by
                  obtain ⟨pv, ho, _⟩ := HT.out.1
                  have := (ownsRow_blk ho e).2
                  omega⟩
                have HNU := hid hNU2
                have hF5 : FcO R0.heap.size w5 u7 (PA.take t) := FcO.below HT.out.1 hb5
                have HF5 := hid hF5
                have hs5 := hb5.size
                clear hNU hNU2 hF5 r5 r6 r1 r2x r3x hC c5
                generalize hNTL : NT.length = NTL at *
                go_wp2_with (at_builtin; refine wpList_part rfl (.tmp 47) (.tmp 50) rfl R0.heap.size u7 (.slice (some ⟨b5, 0, none⟩) NTL c5x) (PA.take t) NT rfl rfl HF5.out rfl HNU.out (by omega) (by omega) (by omega) ?_; intro g6 cap6 w6 hF6 grow6 at6)
                have hu7 : ∀ b, u7.ownBlock = some b → R0.heap.size ≤ b ∧ b < wr.heap.size := fun b e => by
                  obtain ⟨pv, ho, _⟩ := HT.out.1
                  exact ownsRow_blk ho e
                have hb6 : Below R0.heap.size R0 w6 := (below_step hbz hsz hb5).grown grow6 (by omega) (fun k hk => (hu7 k hk).1)
                have hgp6 : w6.heap[gp]? = w2.heap[gp]? := by
                  rw [grow6.block gp (by omega) (fun e => HT.out.2.1 e.symm), hb5.block gp (by omega)]
                  exact HT.out.2.2
                have hne6 : (Value.slice (some ⟨g6, 0, none⟩) ((PA.take t).length + 1) cap6).ownBlock ≠ some gp := fun e => by
                  have e2 : g6 = gp := by simpa [Value.ownBlock] using e
                  subst e2
                  rcases at6 with h | h
                  · exact HT.out.2.1 h
                  · omega
                have hs6 := grow6.size
                rw [htl] at hF6 hne6
                have HF6 : Hid (FcO R0.heap.size w6 (Value.slice (some ⟨g6, 0, none⟩) (t + 1) cap6) (PA.take (t + 1)) ∧ (Value.slice (some ⟨g6, 0, none⟩) (t + 1) cap6).ownBlock ≠ some gp ∧ w6.heap[gp]? = w2.heap[gp]?) := ⟨by rw [Htk.out]; exact hF6, hne6, hgp6⟩
                clear hF6 grow6 at6 hne6 hgp6 hu7
                go_wp2
                go_roundw
                case rel => exact ⟨t + 1, by omega, by go_num, hb6, by omega, HF6⟩
                case measure => simp [intOf]; omega
              · have htM2 : t = M := by omega
                subst htM2
                have hFA : FcO R0.heap.size wr u7 PA := by
                  have := HT.out.1
                  rw [HM2.out, List.take_length] at this
                  exact this
                obtain ⟨G7, c7, pv7, hu7, hPt⟩ := hFA.to (by have := HM2.out; omega)
                subst hu7
                have hNJ : PA.flatten ++ List.replicate (PA.length - 1) (kindN 3) = nsi ++ List.replicate mi altN := by rw [HPAf.out, HPAn.out]; rfl
                obtain ⟨NJ, hNJ2⟩ : ∃ NJ, NJ = nsi ++ List.replicate mi altN := ⟨_, rfl⟩
                rw [← hNJ2] at hNJ
                have hNJp : 0 < NJ.length := by
                  have hx := hPt.pos 0 (by have := HM2.out; omega)
                  have h10 := flatten_take_le PA (0 + 1)
                  rw [flatten_take (by have := HM2.out; omega), List.length_append] at h10
                  rw [← hNJ, List.length_append]
                  omega
                have hNJl : NJ.length ≤ 8000 := by have h9 := HN0e.out; rw [← hNJ2] at h9; have := congrArg List.length h9; simp at this; omega
                have hpl := HM2.out
                have hPf8 : PA.flatten.length ≤ 8000 := by have := congrArg List.length hNJ; rw [List.length_append] at this; omega
                have hJ : ∀ W, Below wr.heap.size wr W → Calls Tryz.prog 27 #[.slice (some ⟨G7, 0, none⟩) t c7, .int .i64 3] W fun e w' => ∃ v, e = .returned v ∧ (NdO R0.heap.size (fun b => R0.heap.size ≤ b) w' v NJ ∧ Below W.heap.size W w') := by
                  intro W hW
                  have hPt2 : PtU (fun b => R0.heap.size ≤ b) W G7 0 PA pv7 := ⟨Nat.lt_of_lt_of_le hPt.lt hW.size, fun j hj => by rw [World.cell?_of_block (w := wr) (hW.block G7 hPt.lt)]; exact hPt.cel j hj, fun j hj => (hPt.nds j hj).below hW, hPt.pos⟩
                  have h9 := l1Join_ok (c := c7) 3 W hPt2 (by omega) (by omega)
                  rw [hNJ, ← hpl] at h9
                  have hWs := hW.size
                  refine h9.mono ?_
                  rintro e w' ⟨v, rfl, hN, hb⟩
                  refine ⟨v, rfl, ?_, hb⟩
                  obtain ⟨sv, ho, hr⟩ := hN
                  exact ⟨sv, ownsRow_mono ho (by omega), fun j hj => (hr j hj).mono fun b hb _ => ⟨hb.1.1, hb.2⟩⟩
                have HJ := hid hJ
                have HNJ := hid hNJ2
                rw [← hpl]
                clear hJ hNJ hNJ2 hPt hFA HT hPf8
                obtain ⟨LJ, hLJ⟩ : ∃ LJ, LJ = NJ.length := ⟨_, rfl⟩
                have z0 := Hz.out wr hbzw
                generalize hGI : ((g1 + 1 : Nat) : Int) = GI at z0
                have HGI := hid hGI
                have HLJ := hid hLJ
                have hLJ1 : 0 < LJ := by omega
                have hLJ2 : LJ ≤ 8000 := by omega
                clear hGI hLJ hpl hNJp hNJl
                have hz2 : ∀ W, Below wr.heap.size wr W → W.cell? ⟨G, O + k * 5 + 3, none⟩ = some (.int .i64 GI) := fun W hW => by rw [← HGI.out]; exact Hz.out W (below_step hbzw (by omega) hW)
                have Hz2 := hid hz2
                clear hz2
                go_wp2
                go_region_law ((first
                  | (refine step_goE (by rfl) 27 #[.tmp 53, .const (.int .i64 3)] #[63, 3] (by rfl) #[.slice (some ⟨G7, 0, none⟩) t c7, .int .i64 3] (by first | rfl | kernel_rfl | simp [Act.eval]) _ (enterJoin _ _) (HJ.out _ (by first | exact (Below.refl _ _) | exact (Below.refl _ _).drew | exact ((Below.refl _ _).drew.alloc (Nat.le_refl _) _) | exact ((Below.refl _ _).alloc (Nat.le_refl _) _).drew | exact ((Below.refl _ _).alloc (Nat.le_refl _) _))) ?_; rintro v7 w7 ⟨hN7, hb7⟩; have hbj : Below wr.heap.size wr w7 := (by first | exact hb7 | exact (below_step (Below.refl _ _).drew (Nat.le_refl _) hb7) | exact (below_step ((Below.refl _ _).drew.alloc (Nat.le_refl _) _) (by simp) hb7) | exact (below_step ((Below.refl _ _).alloc (Nat.le_refl _) _).drew (by simp) hb7) | exact (below_step ((Below.refl _ _).alloc (Nat.le_refl _) _) (by simp) hb7)); have z7 := Hz2.out w7 hbj; have hex : ∃ g7 c8, v7 = .slice (some ⟨g7, 0, none⟩) LJ c8 := (by obtain ⟨sv, ho, _⟩ := id hN7; obtain ⟨g7, c8, e, _⟩ := ho.form (by rw [← HLJ.out]; exact hLJ1); exact ⟨g7, c8, by rw [HLJ.out]; exact e⟩); obtain ⟨g7, c8, hv7⟩ := hex; subst hv7; have hg7 : R0.heap.size ≤ g7 := (by obtain ⟨sv, ho, _⟩ := id hN7; exact (ownsRow_blk ho rfl).1); have hs7 := hbj.size)
                  | (refine step_node (by rfl) (.tmp 54) (.tmp 61) (by rfl) R0.heap.size (fun b => R0.heap.size ≤ b) (.slice (some ⟨g7, 0, none⟩) LJ c8) NJ (by rfl) (NdO.below hN7 ((Below.refl _ _).alloc (Nat.le_refl _) _)) w7.heap.size (grpN (g1 + 1)) (.slice none 0 0) (by rfl) (by rw [← HGI.out]; exact heap_alloc_new _ _) (RngU.nil _ _) (by rw [← HLJ.out]; omega) (by simp; omega) ?_; intro g8 cap8 w8 hN8 grow8; rw [← HLJ.out] at hN8 ⊢; have hb8 : Below R0.heap.size R0 w8 := ((below_step hbz hsz hbj).alloc (by omega) _).grown grow8 (by simp; omega) (fun k hk => by simp [Value.ownBlock] at hk; omega))
                  | (refine step_node (by rfl) (.tmp 54) (.tmp 61) (by rfl) R0.heap.size (fun b => R0.heap.size ≤ b) (.slice (some ⟨g7, 0, none⟩) LJ c8) NJ (by rfl) hN7 wr.heap.size (grpN (g1 + 1)) (.slice none 0 0) (by rfl) (row_below (by rw [← HGI.out]; exact row_drew (heap_alloc_new wr _)) hb7) (RngU.nil _ _) (by rw [← HLJ.out]; omega) (by omega) ?_; intro g8 cap8 w8 hN8 grow8; rw [← HLJ.out] at hN8 ⊢; have hb8 : Below R0.heap.size R0 w8 := (below_step hbz hsz hbj).grown grow8 (by omega) (fun k hk => by simp [Value.ownBlock] at hk; omega))
                  | fail))
                all_goals
                  have HN8 := hid hN8
                  clear hN8 grow8 hN7 hb7 hbj z7 z0
                  go_wp2
                  go_meet
                  case rel => exact ⟨by rw [← hKJ], by rw [HN0e.out, ← HNJ.out]; exact HN8, hb8⟩
    obtain ⟨rfl, HNX, hbx⟩ := hcut
    have hbx2 := below_step hb hs hbx
    have hsx := hbx.size
    have hVx := HV0.out wc hbx2
    have hNpos := gr_nodes HG0.out
    have hFO : FcO w.heap.size wc u3 P1 := FcO.below HO.out hbx
    have hfvb : ∀ b, u3.ownBlock = some b → w.heap.size ≤ b ∧ b < wr.heap.size := by
      intro b hb
      obtain ⟨pv, ho, _⟩ := HO.out
      exact ownsRow_blk ho hb
    have HFO := hid hFO
    have Hfvb := hid hfvb
    have hlen0 : l.length = n0 := HNN.out.symm
    have HLen0 := hid hlen0
    have hkmI : ((k + m : Nat) : Int) = (k : Int) + (m : Int) := by omega
    have hfl : f.length = m ∨ f.length = m + 1 := by
      rcases HfN.out with ⟨e, _⟩ | ⟨rp, _, e, _⟩
      · left; rw [e, HM.out]
      · right; rw [e, HM.out]; simp
    have hsq : ∀ k2, k2 = k + f.length → SqS l g g' P k2 (a ++ f) r2 (P1 ++ [N]) P3 g2 := by
      intro k2 hk2
      obtain ⟨e1, e2, e3, e4, e5⟩ := HQ.out
      have hg1 : Gr 1 g1 f 0 N g2 := by
        rcases HfN.out with ⟨e, e'⟩ | ⟨rp, hrp, e, e'⟩
        · rw [e, e']; exact .bare HG0.out
        · rw [e, e']; exact .rep HG0.out hrp
      exact ⟨by rw [e1, HR.out]; simp, by rw [hk2, e2]; simp, HF2.out, by rw [e4, HP2.out]; simp, by rw [gr_num hg1, e5, numN_app3]; omega⟩
    have Hsq := hid hsq
    have Hfl := hid hfl
    clear hFO hfvb hlen0 hfl hsq hkmI
    rcases HfN.out with ⟨hf, hNe⟩ | ⟨rp, hrp, hf, hNe⟩
    · obtain ⟨KX, hKX, hCK⟩ : ∃ KX : Int, (KX == 114) = false ∧ Calls Tryz.prog 11 #[.slice (some ⟨G, O, none⟩) n0 c, .int .i64 ((k + m : Nat) : Int)] wc fun e w' => e = .returned (.int .u8 KX) ∧ w' = wc := by
        by_cases hin : k + m < n0
        · have hk2 : kAt l (k + m) = kAt r2 0 := by
            have e1 : l = (a ++ f) ++ r2 := by rw [HQ.out.e, HR.out]; simp
            have e2 : k + m = (a ++ f).length + 0 := by rw [List.length_append, ← HQ.out.k, hf, ← HM.out]; rfl
            rw [e1, e2, kAt_app2]
          have hr2 : r2 ≠ [] := by
            intro e
            have := congrArg List.length (show l = (a ++ f) ++ r2 by rw [HQ.out.e, HR.out]; simp)
            rw [e, List.append_nil, List.length_append, ← HQ.out.k, hf, ← HM.out, HLen0.out] at this
            omega
          have hk01 := (fs_head HF2.out).resolve_left hr2
          have := l1Kind_in (c := c) wc hVx (k := k + m) (ck := ((k + m : Nat) : Int)) (by rw [HLen0.out]; exact hin) rfl
          rw [HLen0.out] at this
          refine ⟨_, ?_, this⟩
          rw [hk2]
          rcases hk01 with e | e <;> rw [e] <;> rfl
        · exact ⟨46, by decide, l1Kind_out wc (.inr (by omega))⟩
      have hV5 : NdU (fun b => w.heap.size ≤ b ∧ u3.ownBlock ≠ some b) wc u5 N0 := NdO.to HNX.out hNpos (fun b hb _ => by
        have hb2 : wr.heap.size ≤ b := by
          rcases hb with hb | hb
          · obtain ⟨sv, ho, _⟩ := HNX.out
            exact (ownsRow_blk ho hb).1
          · exact hb
        exact ⟨by omega, fun e => by have := (Hfvb.out b e).2; omega⟩)
      obtain ⟨b5, c5, _, hv5, _⟩ := id hV5
      subst hv5
      have HV5 := hid hV5
      have HNe := hid hNe
      have Hf := hid hf
      clear hV5 hNe hf hVx HNX
      generalize hNL : N0.length = NL at *
      go_wp2_with fail
      refine hCK.mono ?_
      rintro e w2 ⟨rfl, hw⟩
      rw [hw]
      clear hw w2 hCK
      go_wp2_with (at_builtin; refine wpList_part rfl (.tmp 96) (.tmp 98) rfl w.heap.size u3 (.slice (some ⟨b5, 0, none⟩) NL c5) P1 N0 rfl rfl HFO.out rfl HV5.out (by omega) (by omega) (by omega) ?_; intro g' cap' w4 hF4 grow4 at4)
      have hb4 : Below w.heap.size w w4 := hbx2.grown grow4 (by omega) (fun k hk => (Hfvb.out k hk).1)
      have HF4 := hid hF4
      clear hF4 grow4 at4
      go_wp2
      go_roundw
      case rel => exact ⟨k + m, a ++ f, r2, P1 ++ [N], P3, g2, Hsq.out _ (by rw [Hf.out, ← HM.out]), by go_num, hb4, by rw [HNe.out]; exact HF4⟩
      case measure => simp [intOf]; omega
    · have hin : k + m < n0 := by
        have := congrArg List.length (show l = (a ++ f) ++ r2 by rw [HQ.out.e, HR.out]; simp)
        rw [List.length_append, List.length_append, ← HQ.out.k, hf, List.length_append, ← HM.out, HLen0.out] at this
        simp at this
        omega
      have hgd : l.getD (k + m) tokZ = rp := by
        have e1 : l = (a ++ f0) ++ (rp :: r2) := by rw [HQ.out.e, HR.out, hf]; simp
        have e2 : k + m = (a ++ f0).length + 0 := by rw [List.length_append, ← HQ.out.k, ← HM.out]; rfl
        rw [e1, e2, getD_app2]; rfl
      have hk4 : kAt l (k + m) = 4 := by unfold kAt; rw [hgd]; exact hrp
      have hinl : k + m < l.length := by rw [HLen0.out]; exact hin
      have hCK := l1Kind_in (c := c) wc hVx (k := k + m) (ck := ((k + m : Nat) : Int)) hinl rfl
      rw [HLen0.out, hk4] at hCK
      have hCK : Calls Tryz.prog 11 #[.slice (some ⟨G, O, none⟩) n0 c, .int .i64 ((k + m : Nat) : Int)] wc fun e w' => e = .returned (.int .u8 114) ∧ w' = wc := hCK
      have z3 := hVx.minC hinl
      have z4 := hVx.maxC hinl
      have hms : mS g l (k + m) = rp.mn := by unfold mS; rw [if_neg (by omega), hgd]
      rw [hms] at z3
      rw [hgd] at z4
      generalize hRM : rp.mn = RM at *
      generalize hRX : rp.mx = RX at *
      have hkm1 : ((k + m : Nat) : Int) < (n0 : Int) := by omega
      have hgd5 : ∃ g5 c5, u5 = .slice (some ⟨g5, 0, none⟩) N0.length c5 := by
        obtain ⟨sv, ho, _⟩ := HNX.out
        obtain ⟨g5, c5, e, _⟩ := ho.form hNpos
        exact ⟨g5, c5, e⟩
      obtain ⟨b5, c5, hv5⟩ := hgd5
      subst hv5
      have HNe := hid hNe
      have Hf := hid hf
      have hown5 : wr.heap.size ≤ b5 := by
        obtain ⟨sv, ho, _⟩ := HNX.out
        exact (ownsRow_blk ho rfl).1
      clear hNe hf hVx hgd hk4 hms hinl hRM hRX
      generalize hKM : k + m = KM at *
      obtain ⟨NL, hNL⟩ : ∃ NL, NL = N0.length := ⟨_, rfl⟩
      rw [← hNL] at hNpos hN0 ⊢
      have HNX2 : Hid (NdO wr.heap.size (fun b => wr.heap.size ≤ b) wc (.slice (some ⟨b5, 0, none⟩) NL c5) N0) := by rw [hNL]; exact HNX
      have HNL := hid hNL
      clear hNL HNX
      go_wp2_with fail
      refine hCK.mono ?_
      rintro e w2 ⟨rfl, hw⟩
      rw [hw]
      clear hw w2 hCK
      go_wp2
      go_region_law ((refine step_node (by rfl) (.tmp 80) (.tmp 92) (by rfl) wr.heap.size (fun b => wr.heap.size ≤ b) (.slice (some ⟨b5, 0, none⟩) NL c5) N0 (by rfl) (NdO.below HNX2.out (by first | exact ((Below.refl _ _).drew.alloc (Nat.le_refl _) _) | exact ((Below.refl _ _).alloc (Nat.le_refl _) _).drew | exact ((Below.refl _ _).alloc (Nat.le_refl _) _))) wc.heap.size (repN RM RX) (.slice none 0 0) (by rfl) (by first | exact heap_alloc_new _ _ | exact row_drew (heap_alloc_new _ _)) (RngU.nil _ _) (by rw [← HNL.out]; omega) (by simp; omega) ?_; intro g' cap' w4 hN4 grow4; rw [← HNL.out] at hN4 ⊢))
      all_goals
        have hb4 : Below wr.heap.size wr w4 := by
          first
          | exact ((hbx.drew).alloc (by simp; omega) _).grown grow4 (by simp; omega) (fun k hk => by simp [Value.ownBlock] at hk; omega)
          | exact ((hbx.alloc (by omega) _).drew).grown grow4 (by simp; omega) (fun k hk => by simp [Value.ownBlock] at hk; omega)
          | exact (hbx.alloc (by omega) _).grown grow4 (by simp; omega) (fun k hk => by simp [Value.ownBlock] at hk; omega)
        have hV5 : NdU (fun b => w.heap.size ≤ b ∧ u3.ownBlock ≠ some b) w4 (.slice (some ⟨g', 0, none⟩) (NL + 1) cap') (N0 ++ [repN RM RX]) := hN4.to (by simp) (fun b hb _ => by
          have hb2 : wr.heap.size ≤ b := by
            rcases hb with hb | hb
            · obtain ⟨sv, ho, _⟩ := hN4
              exact (ownsRow_blk ho hb).1
            · exact hb
          exact ⟨by omega, fun e => by have := (Hfvb.out b e).2; omega⟩)
        have HV5 := hid hV5
        have hF5 : FcO w.heap.size w4 u3 P1 := FcO.below HO.out hb4
        have HF5 := hid hF5
        have hs4 := hb4.size
        clear hV5 hF5 hN4 grow4 z3 z4
        go_wp2_with (at_builtin; refine wpList_part rfl (.tmp 96) (.tmp 98) rfl w.heap.size u3 (.slice (some ⟨g', 0, none⟩) (NL + 1) cap') P1 (N0 ++ [repN RM RX]) rfl rfl HF5.out rfl HV5.out (by simp) (by omega) (by omega) ?_; intro g6 cap6 w6 hF6 grow6 at6)
        have hb6 : Below w.heap.size w w6 := (below_step hb hs hb4).grown grow6 (by omega) (fun k hk => (Hfvb.out k hk).1)
        have HF6 := hid hF6
        clear hF6 grow6 at6
        go_wp2
        go_roundw
        case rel => exact ⟨KM + 1, a ++ f, r2, P1 ++ [N], P3, g2, Hsq.out _ (by rw [Hf.out, List.length_append, ← HM.out, ← hKM]; rfl), by go_num, hb6, by rw [HNe.out]; exact HF6⟩
        case measure => simp [intOf]; omega
theorem l1Seq_all : ∀ (M : Nat) (G O g c : Nat) (l : List Tok) (N : List NodeD) (g' : Nat) (q : Nat → Nat) (w : World), l.length ≤ M → AltI g l N g' → TkV w G O g l q → l.length ≤ 2000 → l.length ≤ c → c ≤ 9223372036854775807 → Calls Tryz.prog 15 #[.slice (some ⟨G, O, none⟩) l.length c] w (SeqA w N)
  | 0, G, O, g, c, l, N, g', q, w, hM, hA, h, hl, hc, hc2 => by
    obtain ⟨n, ns, hG, rfl⟩ := hA
    exact absurd (List.eq_nil_of_length_eq_zero (Nat.le_zero.1 hM)) (gr_ne hG)
  | M + 1, G, O, g, c, l, N, g', q, w, hM, hA, h, hl, hc, hc2 => by
    obtain ⟨n, ns, hG, rfl⟩ := hA
    exact l1Seq_step w hG h hl hc hc2 fun O2 g2 c2 l2 N2 g3 q2 W h2 hA2 hV2 h3 h4 => l1Seq_all M G O2 g2 c2 l2 N2 g3 q2 W (by omega) hA2 hV2 (by omega) h3 h4
theorem l1Seq_ok {G O g c : Nat} {l : List Tok} {N : List NodeD} {g' : Nat} {q : Nat → Nat} (w : World) (hA : AltI g l N g') (h : TkV w G O g l q) (hl : l.length ≤ 2000) (hc : l.length ≤ c) (hc2 : c ≤ 9223372036854775807) : Calls Tryz.prog 15 #[.slice (some ⟨G, O, none⟩) l.length c] w (SeqA w N) :=
  l1Seq_all l.length G O g c l N g' q w (Nat.le_refl _) hA h hl hc hc2
end Go.Proofs.YtgbdlgogccgciaaGreatDoor
