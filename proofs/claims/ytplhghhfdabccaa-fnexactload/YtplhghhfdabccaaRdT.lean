import Derived.Test.YtplhghhfdabccaaRd
import Derived.Test.YtplhghhfdabccaaLoadAll
import Derived.Test.YtplhghhfdabccaaTabI
namespace Go.Proofs.Ytplhghhfdabccaa
open Go.RowKit
attribute [local go_sem ↓] Go.wp_at_zero Go.wp_at_succ

theorem must_yes (c : Int) (b : Bool) (w : World) (hb : b = true) : Calls Try.prog 81 #[.bool b, .int .i64 c] w fun e w' => e = .returned (.tuple #[]) ∧ w' = w := by subst hb; exact must_true c w
theorem must_no (c : Int) (b : Bool) (w : World) (hb : b = false) : Calls Try.prog 81 #[.bool b, .int .i64 c] w fun e w' => e = .panicked (refusal c) ∧ w' = w := by subst hb; exact must_false c w
theorem enterMust (args : Array Value) (w : World) : (callFunc 81 args).run Try.prog w = .ok (.enter 81 args) w := by kernel_rfl
theorem die_post {P : Program} {fn : Func} {R : Ending → World → Prop} {c : List PanicEntry} {a : Act} {w : World} (hd : a.defers = []) (h : R (.panicked c) w) : bodyPost P fn R (.panic c) a w := ⟨hd, h⟩
/-- What (*imageReader).table does: it answers a table, or gives up with the code. -/
def RdAns (s : ByteArray) (p : Nat) (w : World) (e : Ending) (w' : World) : Prop := Kept (fun b => b = p) w w' ∧
  ((loadC s = 0 ∧ ∃ (gt : Nat) (v : Nat → Value), e = .returned (.agg (rowA (loadW s) v)) ∧ w.heap.size ≤ gt ∧ Fam gt 7 w' v (loadL s)) ∨ (¬loadC s = 0 ∧ e = .panicked (refusal (loadC s))))
theorem RdAns.bad {s : ByteArray} {p : Nat} {w w' : World} {c : Int} (hk : Kept (fun b => b = p) w w') (h : loadC s = c) (hc : ¬c = 0) : RdAns s p w (.panicked (refusal c)) w' := ⟨hk, .inr (by rw [h]; exact ⟨hc, rfl⟩)⟩
def magicN (k : Nat) : Nat := (([88, 68, 70, 49] : List UInt8).getD k 0).toNat
theorem magicN_at {k : Nat} (h : k < 4) (hk : k < (⟨#[88, 68, 70, 49]⟩ : ByteArray).size) : (((⟨#[88, 68, 70, 49]⟩ : ByteArray)[k]'hk).toNat : Int) = (magicN k : Int) := by
  match k, h with
  | 0, _ => rfl
  | 1, _ => rfl
  | 2, _ => rfl
  | 3, _ => rfl
theorem mag_iff {s : ByteArray} (hs : 4 ≤ s.size) : s.extract 0 4 = ⟨#[88, 68, 70, 49]⟩ ↔ ∀ j, j < 4 → byteN s j = magicN j := by
  have hl : (s.extract 0 4).size = 4 := by simp; omega
  constructor
  · intro h j hj
    have e : byteN s j = byteN (s.extract 0 4) j := by
      rw [← byteN_at (s := s) (i := j) (by omega), ← byteN_at (s := s.extract 0 4) (i := j) (by omega)]
      rw [ByteArray.getElem_extract]
      simp
    rw [e, h]
    rfl
  · intro h
    apply ByteArray.ext_getElem
    · rw [hl]; rfl
    · intro j h1 h2
      have hj : j < 4 := by omega
      have e := h j hj
      rw [ByteArray.getElem_extract]
      apply UInt8.toNat_inj.1
      have e0 : s[0 + j].toNat = byteN s j := by rw [byteN_at (s := s) (i := 0 + j) (by omega), Nat.zero_add]
      rw [e0, e]
      have := magicN_at hj h2
      omega

set_option maxHeartbeats 400000 in
theorem imageSize_at (n sl : Nat) (hn : (n : Int) ≤ 4000) (hs : (sl : Int) ≤ 60000) (w : World) :
    Calls Try.prog 74 #[.int .i64 n, .int .i64 sl] w fun e w' => e = .returned (.int .i64 (268 + 8 * (n : Int) + 4 * (sl : Int))) ∧ w' = w := by
  go_enter Try.func74, Try.ntmps74
  go_wp2
  go_ret
  exact ⟨rfl, rfl⟩
theorem enterSize (args : Array Value) (w : World) : (callFunc 74 args).run Try.prog w = .ok (.enter 74 args) w := by kernel_rfl
theorem extract_take (s : ByteArray) (k : Nat) : (s.extract 0 k).data.toList = s.data.toList.take k := by simp
theorem Kept.set8 {S : Nat → Prop} {a W : World} (h : Kept S a W) {b : Nat} (hb : a.heap.size ≤ b) (u0 u1 u2 u3 u4 u5 u6 u7 : Value) : Kept S a (Go.Proofs.Ytplhghhfdabccaa.set8 W b u0 u1 u2 u3 u4 u5 u6 u7) := by
  have step : ∀ (W : World) (o : Nat) (u : Value), Kept S a W → Kept S a (W.setCell ⟨b, o, none⟩ u) := fun W o u h => ⟨h.os, h.tape, h.output, by have := h.size; simpa [World.setCell] using this, fun k hk hs => (heap_setCell_other _ _ _ _ (by simp; omega)).trans (h.block k hk hs)⟩
  exact step _ _ _ (step _ _ _ (step _ _ _ (step _ _ _ (step _ _ _ (step _ _ _ (step _ _ _ (step _ _ _ h)))))))
structure Counts (s : ByteArray) : Prop where
  n1 : 1 ≤ numN s 4
  n2 : numN s 4 ≤ 4000
  w1 : 1 ≤ numN s 6
  w2 : numN s 6 ≤ 256
  sl : numN s 8 ≤ 60000
theorem load3 {s : ByteArray} (h268 : ¬(s.size : Int) < 268) (hm : s.extract 0 4 = ⟨#[88, 68, 70, 49]⟩) (h : ¬Counts s) : loadC s = 3 := by
  unfold loadC
  rw [if_neg h268, if_neg (not_not_intro hm)]
  cases g3 : btw (numN s 4) 1 4000
  case false => rw [if_pos rfl]
  rw [if_neg (by simp)]
  cases g4 : btw (numN s 6) 1 256
  case false => rw [if_pos rfl]
  rw [if_neg (by simp), if_pos]
  have a := btw_iff.1 g3
  have b := btw_iff.1 g4
  by_cases hsl : 60000 < (numN s 8 : Int)
  · exact hsl
  · exact absurd (Counts.mk (by omega) (by omega) (by omega) (by omega) (by omega)) h
theorem load_past {s : ByteArray} (h268 : ¬(s.size : Int) < 268) (hm : s.extract 0 4 = ⟨#[88, 68, 70, 49]⟩) (h : Counts s) : loadC s =
    if ¬(s.size : Int) = 268 + 8 * numN s 4 + 4 * numN s 8 then 4 else if ¬sumF (s.extract 0 (s.size - 2)).data.toList = numN s (s.size - 2) then 5 else if tabB (loadT s) = false then 6 else 0 := by
  obtain ⟨a, b, c, d, e⟩ := h
  unfold loadC
  rw [if_neg h268, if_neg (not_not_intro hm), if_neg (by rw [show btw (numN s 4) 1 4000 = true from btw_iff.2 (by omega)]; simp), if_neg (by rw [show btw (numN s 6) 1 256 = true from btw_iff.2 (by omega)]; simp), if_neg (by omega)]

set_option maxRecDepth 100000 in
set_option maxHeartbeats 4000000 in
theorem table_ok {X : Array Value} {m : Nat × Nat} (p g cap : Nat) (s : ByteArray) (w : World) (h : Rd X m p g cap s 0 w) (hs : s.size ≤ 1048576) (h268 : ¬(s.size : Int) < 268) :
    Calls Try.prog 82 #[.pointer (some ⟨p, 0, none⟩)] w fun e w' => RdAns s p w e w' := by
  obtain ⟨i0, hi, hz0, hz1, hz2⟩ := info_parts Try.infoInt
  have h268' : 268 ≤ s.size := by omega
  have hpl : p < w.heap.size := row_lt h.cur
  have hgl : g < w.heap.size := row_lt h.row
  have R0 := h.below ((Below.refl _ _).alloc (Nat.le_refl _) (.cells zeroA 48))
  have K0 : Kept (fun b => b = p) w (w.alloc (.cells zeroA 48)) := (Kept.refl _ _).alloc _
  have Z0 := heap_alloc_new w (.cells zeroA 48)
  go_enter Try.func82, Try.ntmps82
  go_wp2
  go_loopw [9] (fun i wr => ∃ k : Nat, k ≤ 4 ∧ i = .int .i64 k ∧ Rd X m p g cap s k wr ∧ Kept (fun b => b = p) w wr ∧ wr.heap[w.heap.size]? = some (.cells zeroA 48 (0, 0)) ∧ Hid (∀ j, j < k → byteN s j = magicN j))
    (fun i _ => 4 - (intOf i).toNat)
  case atStart => exact ⟨0, by omega, rfl, R0, K0, Z0, fun j hj => absurd hj (Nat.not_lt_zero _)⟩
  case round =>
    clear R0 K0 Z0
    obtain ⟨k, hk, rfl, R, K, Z, HM⟩ := hrel
    by_cases hlt4 : k < 4
    · have hne : ¬w.heap.size = p := by omega
      have hi0 : (0 : Int) ≤ (k : Int) := by omega
      have hi1 : (k : Int) < 4 := by omega
      have cP := fun w h => Rd.pass (X := X) (m := m) (p := p) (g := g) (cap := cap) (s := s) (k := k) (w := w) h (by omega) hs
      by_cases hb : byteN s k = magicN k
      · have hb2 : ((byteN s k : Int) == (magicN k : Int)) = true := by rw [hb]; simp
        have HM2 : Hid (∀ j, j < k + 1 → byteN s j = magicN j) := fun j hj => by
          by_cases e : j = k
          · rw [e]; exact hb
          · exact HM.out j (by omega)
        clear hb
        go_wp2
        go_region_held3 (fun _ => True) ((exact trivial)) ((first | (go_at_call 105; refine (cP _ (by first | exact R | exact R.below (Below.refl _ _).drew)).mono ?_; rintro e w1 ⟨rfl, R1, K1⟩) | (go_at_call 81; refine (must_yes 2 _ _ (by rw [magicN_at hlt4]; exact hb2)).mono ?_; rintro e w2 ⟨rfl, rfl⟩)))
        all_goals
          have Z1 := K1.row Z hne
          go_wp2
          exact ⟨⟨k + 1, by omega, by go_num, R1, by first | exact K.trans K1 | exact K.drew.trans K1, Z1, HM2⟩, by simp [intOf]; omega⟩
      · have hb2 : ((byteN s k : Int) == (magicN k : Int)) = false := by simp; omega
        have HC : Hid (loadC s = 2) := by
          show _ = _
          unfold loadC
          rw [if_neg (by omega), if_pos]
          intro hm
          exact hb ((mag_iff (by omega)).1 hm k hlt4)
        clear hb
        go_wp2
        go_region_law ((first | (refine step_go1 (by rfl) 105 (.tmp 14) #[107] (by rfl) (.pointer (some ⟨p, 0, none⟩)) (by rfl) (.int .u8 (byteN s k : Int)) _ (enterPass _ _) (cP _ (by first | exact R | exact R.below (Below.refl _ _).drew)) ?_; rintro w1 ⟨R1, K1⟩) | (refine step_die2 (by rfl) 81 (.tmp 18) (.const (.int .i64 2)) #[4, 114] (by rfl) (.bool _) (.int .i64 2) (by rfl) (by rfl) (refusal 2) _ (enterMust _ _) (must_no 2 _ _ (by rw [magicN_at hlt4]; exact hb2)) (by rintro w2 rfl; exact die_post (P := Try.prog) (fn := Try.f82) rfl (RdAns.bad (by first | exact K.trans K1 | exact K.drew.trans K1) HC.out (by decide))) ?_; intro hF)))
        all_goals exact hF.out.elim
    · have hk4 : k = 4 := by omega
      subst hk4
      have Hmag : Hid (s.extract 0 4 = ⟨#[88, 68, 70, 49]⟩) := (mag_iff (by omega)).2 HM.out
      have h268 : Hid (¬(s.size : Int) < 268) := by show ¬_; omega
      have hne : ¬w.heap.size = p := by omega
      clear HM hlt4 hk
      have c4 := R.number (by omega) hs
      go_wp2_with fail
      refine c4.mono ?_
      rintro e w1 ⟨rfl, R1, K1⟩
      clear c4
      have c6 := R1.number (by omega) hs
      go_wp2_with fail
      refine c6.mono ?_
      rintro e w2 ⟨rfl, R2, K2⟩
      clear c6
      have c8 := R2.number (by omega) hs
      go_wp2_with fail
      refine c8.mono ?_
      rintro e w3 ⟨rfl, R3, K3⟩
      clear c8
      have Z3 := K3.row (K2.row (K1.row Z hne) hne) hne
      have KK := ((K.trans K1).trans K2).trans K3
      clear Z K K1 K2 K3 R R1 R2 w1 w2
      have q4 := numN_le s 4; have q6 := numN_le s 6; have q8 := numN_le s 8
      by_cases hC : Counts s
      case neg =>
        have HC : Hid (loadC s = 3) := load3 (by have := h268.out; omega) Hmag.out hC
        have HQ : Hid (¬(1 ≤ numN s 4 ∧ numN s 4 ≤ 4000 ∧ 1 ≤ numN s 6 ∧ numN s 6 ≤ 256 ∧ numN s 8 ≤ 60000)) := fun h => hC ⟨h.1, h.2.1, h.2.2.1, h.2.2.2.1, h.2.2.2.2⟩
        clear hC
        generalize numN s 4 = n at *
        generalize numN s 6 = wd at *
        generalize numN s 8 = sl at *
        by_cases n1 : 1 ≤ (n : Int)
        case neg => 
          go_wp2_with fail
          refine (must_no 3 _ _ (by first | rfl | (simp; omega))).mono ?_
          rintro e wy ⟨rfl, rfl⟩
          exact die_post (P := Try.prog) (fn := Try.f82) rfl (RdAns.bad KK HC.out (by decide))
        by_cases n2 : (n : Int) ≤ 4000
        case neg => 
          go_wp2_with fail
          refine (must_no 3 _ _ (by first | rfl | (simp; omega))).mono ?_
          rintro e wy ⟨rfl, rfl⟩
          exact die_post (P := Try.prog) (fn := Try.f82) rfl (RdAns.bad KK HC.out (by decide))
        by_cases n3 : 1 ≤ (wd : Int)
        case neg => 
          go_wp2_with fail
          refine (must_no 3 _ _ (by first | rfl | (simp; omega))).mono ?_
          rintro e wy ⟨rfl, rfl⟩
          exact die_post (P := Try.prog) (fn := Try.f82) rfl (RdAns.bad KK HC.out (by decide))
        by_cases n4 : (wd : Int) ≤ 256
        case neg => 
          go_wp2_with fail
          refine (must_no 3 _ _ (by first | rfl | (simp; omega))).mono ?_
          rintro e wy ⟨rfl, rfl⟩
          exact die_post (P := Try.prog) (fn := Try.f82) rfl (RdAns.bad KK HC.out (by decide))
        by_cases n5 : (sl : Int) ≤ 60000
        case neg => 
          go_wp2_with fail
          refine (must_no 3 _ _ (by first | rfl | (simp; omega))).mono ?_
          rintro e wy ⟨rfl, rfl⟩
          exact die_post (P := Try.prog) (fn := Try.f82) rfl (RdAns.bad KK HC.out (by decide))
        exact absurd HQ.out (not_not_intro (by omega))
      have HP : Hid _ := load_past (by have := h268.out; omega) Hmag.out hC
      have HCo : Hid (Counts s) := hC
      obtain ⟨n1, n2, n3, n4, n5⟩ := hC
      have m1 : 1 ≤ (numN s 4 : Int) := by omega
      have m2 : (numN s 4 : Int) ≤ 4000 := by omega
      have m3 : 1 ≤ (numN s 6 : Int) := by omega
      have m4 : (numN s 6 : Int) ≤ 256 := by omega
      have m5 : (numN s 8 : Int) ≤ 60000 := by omega
      have HTn : Hid (loadT s = tabOf (numN s 6) (l3 s (numN s 4) (numN s 8) (numN s 8))) := rfl
      have HLn : Hid (loadC s = 0 → loadW s = numN s 6 ∧ loadL s = l3 s (numN s 4) (numN s 8) (numN s 8)) := fun h => by unfold loadW loadL; rw [if_pos h, if_pos h]; exact ⟨rfl, rfl⟩
      generalize numN s 4 = n at *
      generalize numN s 6 = wd at *
      generalize numN s 8 = sl at *
      clear q4 q6 q8 HCo
      go_wp2_with fail
      refine (must_yes 3 _ _ (by first | rfl | (simp; omega))).mono ?_
      rintro e wy ⟨rfl, rfl⟩
      obtain ⟨z0, z1, z2⟩ := row_three R3.cur
      have hlen : s.data.toList.length = s.size := by simp
      have cS := imageSize_at n sl m2 m5
      rw [hlen] at z0
      clear hlen
      by_cases hz : (s.size : Int) = 268 + 8 * n + 4 * sl
      case neg =>
        have HC : Hid (loadC s = 4) := by show _ = _; rw [HP.out, if_pos hz]
        have hzb : ((s.size : Int) == 268 + 8 * (n : Int) + 4 * (sl : Int)) = false := by simp; omega
        clear hz
        go_wp2
        go_region_law ((first | (refine step_go2 (by rfl) 74 (.tmp 52) (.tmp 53) #[3, 3] (by rfl) (.int .i64 n) (.int .i64 sl) (by rfl) (by rfl) (.int .i64 (268 + 8 * (n : Int) + 4 * (sl : Int))) _ (enterSize _ _) (cS _) ?_; rintro wq rfl) | (refine step_die2 (by rfl) 81 (.tmp 55) (.const (.int .i64 4)) #[4, 114] (by rfl) (.bool false) (.int .i64 4) (by rfl) (by rfl) (refusal 4) _ (enterMust _ _) (must_false 4 _) (by rintro wq2 rfl; exact die_post (P := Try.prog) (fn := Try.f82) rfl (RdAns.bad (by first | exact KK | exact KK.drew) HC.out (by decide))) ?_; intro hF)))
        all_goals exact hF.out.elim
      have hzb : ((s.size : Int) == 268 + 8 * (n : Int) + 4 * (sl : Int)) = true := by simp; omega
      have HZ : Hid ((s.size : Int) = 268 + 8 * n + 4 * sl) := hz
      clear hz
      go_wp2
      go_region_held3 (fun wx => wx.cell? ⟨p, 0, none⟩ = some (.slice (some ⟨g, 0, none⟩) s.size cap)) ((first | exact z0 | go_keep)) ((first | (go_at_call 74; refine (cS _).mono ?_; rintro e wq ⟨rfl, rfl⟩) | (go_at_call 81; refine (must_true 4 _).mono ?_; rintro e wq ⟨rfl, rfl⟩)))
      go_wp2
      have hgt0 : w.heap.size < wy.heap.size := row_lt Z3
      have L0 : RdSt w X m p g cap s wy.heap.size wd (wy.alloc (.cells (rowA wd (fun _ => .slice none 0 0)) 48)).drew (fun _ => .slice none 0 0) (updL (fun _ => []) 0 (clsP s 0)) 10 := by
        refine ⟨(KK.alloc _).drew, hpl, hgl, hgt0, by simp, row_drew (row_alloc Z3), row_drew (heap_alloc_new _ _), ?_, R3.below ((Below.refl _ _).alloc (Nat.le_refl _) _).drew⟩
        have : updL (fun _ => []) 0 (clsP s 0) = fun _ => [] := by funext j; simp [updL, clsP]
        rw [this]
        exact Fam.nil _ _ _
      have hgp : ¬wy.heap.size = p := by omega
      generalize hgt : wy.heap.size = gt at *
      clear Z3 R3 KK hgt z0 z1 z2 cS hzb h268
      have hne2 : ¬w.heap.size = p := by omega
      go_loopw [59] (fun i wr => ∃ k : Nat, k ≤ 256 ∧ i = .int .i64 k ∧ ∃ v, RdSt w X m p g cap s gt wd wr v (updL (fun _ => []) 0 (clsP s k)) (10 + k))
        (fun i _ => 256 - (intOf i).toNat)
      case atStart => exact ⟨0, by omega, rfl, _, L0⟩
      case round =>
        clear L0
        obtain ⟨k, hk, rfl, v, L⟩ := hrel
        by_cases hlt : k < 256
        · have hkk : (k : Int) < 256 := by omega
          obtain ⟨a0, a1, a2, a3, a4, a5, a6, a7⟩ := row_A L.row
          have hgt : gt < wr.heap.size := L.lt
          have hwb : IntKind.i64.wrap (byteN s (10 + k) : Int) = (byteN s (10 + k) : Int) := wrapS (by omega) (by have := byteN_lt s (10 + k); omega)
          go_wp2
          have cN := fun wx (hb : Below wr.heap.size wr wx) => Rd.pass (L.rd.below hb) (by omega) hs
          generalize hNv : byteN s (10 + k) = xv at *
          go_region_law ((first | (refine step_go1 (by rfl) 105 (.tmp 65) #[107] (by rfl) (.pointer (some ⟨p, 0, none⟩)) (by rfl) (.int .u8 (xv : Int)) _ (enterPass _ _) (cN _ (by first | exact Below.refl _ _ | exact (Below.refl _ _).drew)) ?_; rintro wq ⟨Rq, Kq⟩; have hkq : Kept (fun b => b = p) wr wq := (by first | exact Kq | exact (Kept.refl _ _).drew.trans Kq); have hgq : gt < wq.heap.size := Nat.lt_of_lt_of_le hgt hkq.size; have d2 : wq.cell? ⟨gt, 0, none⟩ = some (v 0) := (World.cell?_of_block (hkq.block gt hgt hgp)).trans a0) | (refine step_append_lies _ (by rfl) (.tmp 62) (.tmp 68) 33 (by rfl) (gt + 1) 3 i0 _ 1 8 Try.underlying33 hi hz0 hz1 hz2 rfl (by omega) (v 0) k ((clsP s k).map intV) (by rfl) (L.ownAt (i := 0) (xs := clsP s k) (by omega) (updL_same _ _ _) (clsP_len s k) (by first | exact hkq.alloc _ | exact (hkq.alloc _).drew)) ⟨wq.heap.size, 0, none⟩ 1 1 [.int .i64 (xv : Int)] (by rfl) rfl (one_new (by first | exact heap_alloc_new _ _ | exact row_drew (heap_alloc_new _ _))) (by intro u hu; simp at hu; subst hu; rfl) (by omega) (by unfold maxLen; omega) (by omega) (by simp; omega) (wq.heap.size + 1) (by simp) ?_; intro gg cc w9 own9 grow9 at9 lt9; obtain ⟨m9, f9⟩ := L.mid (by first | exact hkq.alloc _ | exact (hkq.alloc _).drew) (i := 0) (by omega) grow9; have c9 : w9.cell? ⟨gt, 0, none⟩ = some (v 0) := m9 0; have g9 := f9 0; clear m9 f9)))
          all_goals
            have LN := L.push (by first | exact hkq.alloc _ | exact (hkq.alloc _).drew) (Rq.below (by first | exact ((Below.refl _ _).alloc (Nat.le_refl _) _) | exact ((Below.refl _ _).alloc (Nat.le_refl _) _).drew)) (i := 0) (off := 0) (by omega) rfl (updL_same _ _ _) (clsP_len s k) own9 grow9 (by simpa using at9)
            rw [updL_updL, ← hNv, ← clsP_succ] at LN
            go_wp2
            go_roundw
            case rel => exact ⟨k + 1, by omega, by go_num, _, LN⟩
            case measure => simp [intOf]; omega
        · have hk6 : k = 256 := by omega
          rw [hk6, l2_zero] at L
          clear hk6
          go_wp2
          go_loopw [73] (fun i wr => ∃ j : Nat, j ≤ n ∧ i = .int .i64 j ∧ ∃ v, RdSt w X m p g cap s gt wd wr v (l2 s j j j j) (266 + 8 * j))
            (fun i _ => n - (intOf i).toNat)
          case atStart => exact ⟨0, by omega, rfl, _, L⟩
          case round =>
            clear L
            obtain ⟨j, hj, rfl, v, L⟩ := hrel
            by_cases hlt2 : j < n
            · have HLn : 268 + 8 * (n : Int) ≤ (s.size : Int) := by have := HZ.out; omega
              have hj2 : (j : Int) < (n : Int) := by omega
              have hgt : gt < wr.heap.size := L.lt
              obtain ⟨a0, a1, a2, a3, a4, a5, a6, a7⟩ := row_A L.row
              go_upto_region 16 with fail
              go_cut [] from 75 to 103 (fun wx => ∃ v', RdSt w X m p g cap s gt wd wx v' (l2 s (j + 1) j j j) (266 + 8 * j + 2))
              case first =>
                have cN := fun wx (hb : Below wr.heap.size wr wx) => Rd.number (L.rd.below hb) (by omega) hs
                generalize hNv : numN s (266 + 8 * j) = xv at *
                go_region_law ((first | (refine step_go1 (by rfl) 106 (.tmp 77) #[149] (by rfl) (.pointer (some ⟨p, 0, none⟩)) (by rfl) (.int .i64 (xv : Int)) _ (enterNumber _ _) (cN _ (by first | exact Below.refl _ _ | exact (Below.refl _ _).drew)) ?_; rintro wq ⟨Rq, Kq⟩; have hkq : Kept (fun b => b = p) wr wq := (by first | exact Kq | exact (Kept.refl _ _).drew.trans Kq); have hgq : gt < wq.heap.size := Nat.lt_of_lt_of_le hgt hkq.size; have d2 : wq.cell? ⟨gt, 2, none⟩ = some (v 1) := (World.cell?_of_block (hkq.block gt hgt hgp)).trans a2) | (refine step_append_lies _ (by rfl) (.tmp 76) (.tmp 79) 33 (by rfl) (gt + 1) 3 i0 _ 1 8 Try.underlying33 hi hz0 hz1 hz2 rfl (by omega) (v 1) j ((numP s 266 8 j).map intV) (by rfl) (L.ownAt (i := 1) (xs := numP s 266 8 j) (by omega) (show l2 s j j j j 1 = numP s 266 8 j from rfl) (numP_len s 266 8 j) (by first | exact hkq.alloc _ | exact (hkq.alloc _).drew)) ⟨wq.heap.size, 0, none⟩ 1 1 [.int .i64 (xv : Int)] (by rfl) rfl (one_new (by first | exact heap_alloc_new _ _ | exact row_drew (heap_alloc_new _ _))) (by intro u hu; simp at hu; subst hu; rfl) (by omega) (by unfold maxLen; omega) (by omega) (by simp; omega) (wq.heap.size + 1) (by simp) ?_; intro gg cc w9 own9 grow9 at9 lt9; obtain ⟨m9, f9⟩ := L.mid (by first | exact hkq.alloc _ | exact (hkq.alloc _).drew) (i := 1) (by omega) grow9; have c9 : w9.cell? ⟨gt, 2, none⟩ = some (v 1) := m9 2; have g9 := f9 2; clear m9 f9)))
                all_goals
                  have LN := L.push (by first | exact hkq.alloc _ | exact (hkq.alloc _).drew) (Rq.below (by first | exact ((Below.refl _ _).alloc (Nat.le_refl _) _) | exact ((Below.refl _ _).alloc (Nat.le_refl _) _).drew)) (i := 1) (off := 2) (by omega) rfl (show l2 s j j j j 1 = numP s 266 8 j from rfl) (numP_len s 266 8 j) own9 grow9 (by simpa using at9)
                  rw [← hNv, l2_one] at LN
                  go_wp2
                  go_meet
                  exact ⟨_, LN⟩
              case rest =>
                obtain ⟨v1, L1⟩ := hcut
                clear a0 a1 a2 a3 a4 a5 a6 a7 hgt L
                have hgt : gt < wc.heap.size := L1.lt
                obtain ⟨a0, a1, a2, a3, a4, a5, a6, a7⟩ := row_A L1.row
                have hoff : 266 + 8 * j + 2 = 268 + 8 * j := by omega
                rw [hoff] at L1
                clear hoff
                go_upto_region 17 with fail
                go_cut [] from 75 to 103 (fun wx => ∃ v', RdSt w X m p g cap s gt wd wx v' (l2 s (j + 1) (j + 1) j j) (268 + 8 * j + 2))
                case first =>
                  have cN := fun wx (hb : Below wc.heap.size wc wx) => Rd.number (L1.rd.below hb) (by omega) hs
                  generalize hNv : numN s (268 + 8 * j) = xv at *
                  go_region_law ((first | (refine step_go1 (by rfl) 106 (.tmp 84) #[149] (by rfl) (.pointer (some ⟨p, 0, none⟩)) (by rfl) (.int .i64 (xv : Int)) _ (enterNumber _ _) (cN _ (by first | exact Below.refl _ _ | exact (Below.refl _ _).drew)) ?_; rintro wq ⟨Rq, Kq⟩; have hkq : Kept (fun b => b = p) wc wq := (by first | exact Kq | exact (Kept.refl _ _).drew.trans Kq); have hgq : gt < wq.heap.size := Nat.lt_of_lt_of_le hgt hkq.size; have d2 : wq.cell? ⟨gt, 3, none⟩ = some (v1 2) := (World.cell?_of_block (hkq.block gt hgt hgp)).trans a3) | (refine step_append_lies _ (by rfl) (.tmp 83) (.tmp 86) 33 (by rfl) (gt + 1) 3 i0 _ 1 8 Try.underlying33 hi hz0 hz1 hz2 rfl (by omega) (v1 2) j ((numP s 268 8 j).map intV) (by rfl) (L1.ownAt (i := 2) (xs := numP s 268 8 j) (by omega) (show l2 s (j + 1) j j j 2 = numP s 268 8 j from rfl) (numP_len s 268 8 j) (by first | exact hkq.alloc _ | exact (hkq.alloc _).drew)) ⟨wq.heap.size, 0, none⟩ 1 1 [.int .i64 (xv : Int)] (by rfl) rfl (one_new (by first | exact heap_alloc_new _ _ | exact row_drew (heap_alloc_new _ _))) (by intro u hu; simp at hu; subst hu; rfl) (by omega) (by unfold maxLen; omega) (by omega) (by simp; omega) (wq.heap.size + 1) (by simp) ?_; intro gg cc w9 own9 grow9 at9 lt9; obtain ⟨m9, f9⟩ := L1.mid (by first | exact hkq.alloc _ | exact (hkq.alloc _).drew) (i := 2) (by omega) grow9; have c9 : w9.cell? ⟨gt, 3, none⟩ = some (v1 2) := m9 3; have g9 := f9 3; clear m9 f9)))
                  all_goals
                    have LN := L1.push (by first | exact hkq.alloc _ | exact (hkq.alloc _).drew) (Rq.below (by first | exact ((Below.refl _ _).alloc (Nat.le_refl _) _) | exact ((Below.refl _ _).alloc (Nat.le_refl _) _).drew)) (i := 2) (off := 3) (by omega) rfl (show l2 s (j + 1) j j j 2 = numP s 268 8 j from rfl) (numP_len s 268 8 j) own9 grow9 (by simpa using at9)
                    rw [← hNv, l2_two] at LN
                    go_wp2
                    go_meet
                    exact ⟨_, LN⟩
                case rest =>
                  obtain ⟨v2, L2⟩ := hcut
                  clear a0 a1 a2 a3 a4 a5 a6 a7 hgt L1
                  have hgt : gt < wc.heap.size := L2.lt
                  obtain ⟨a0, a1, a2, a3, a4, a5, a6, a7⟩ := row_A L2.row
                  have hoff : 268 + 8 * j + 2 = 270 + 8 * j := by omega
                  rw [hoff] at L2
                  clear hoff
                  go_upto_region 18 with fail
                  go_cut [] from 75 to 103 (fun wx => ∃ v', RdSt w X m p g cap s gt wd wx v' (l2 s (j + 1) (j + 1) (j + 1) j) (270 + 8 * j + 2))
                  case first =>
                    have cN := fun wx (hb : Below wc.heap.size wc wx) => Rd.entry (L2.rd.below hb) (by omega) hs
                    generalize hNv : optN s (270 + 8 * j) = xv at *
                    go_region_law ((first | (refine step_go1 (by rfl) 107 (.tmp 91) #[149] (by rfl) (.pointer (some ⟨p, 0, none⟩)) (by rfl) (.int .i64 xv) _ (enterEntry _ _) (cN _ (by first | exact Below.refl _ _ | exact (Below.refl _ _).drew)) ?_; rintro wq ⟨Rq, Kq⟩; have hkq : Kept (fun b => b = p) wc wq := (by first | exact Kq | exact (Kept.refl _ _).drew.trans Kq); have hgq : gt < wq.heap.size := Nat.lt_of_lt_of_le hgt hkq.size; have d2 : wq.cell? ⟨gt, 4, none⟩ = some (v2 3) := (World.cell?_of_block (hkq.block gt hgt hgp)).trans a4) | (refine step_append_lies _ (by rfl) (.tmp 90) (.tmp 93) 33 (by rfl) (gt + 1) 3 i0 _ 1 8 Try.underlying33 hi hz0 hz1 hz2 rfl (by omega) (v2 3) j ((optP s 270 8 j).map intV) (by rfl) (L2.ownAt (i := 3) (xs := optP s 270 8 j) (by omega) (show l2 s (j + 1) (j + 1) j j 3 = optP s 270 8 j from rfl) (optP_len s 270 8 j) (by first | exact hkq.alloc _ | exact (hkq.alloc _).drew)) ⟨wq.heap.size, 0, none⟩ 1 1 [.int .i64 xv] (by rfl) rfl (one_new (by first | exact heap_alloc_new _ _ | exact row_drew (heap_alloc_new _ _))) (by intro u hu; simp at hu; subst hu; rfl) (by omega) (by unfold maxLen; omega) (by omega) (by simp; omega) (wq.heap.size + 1) (by simp) ?_; intro gg cc w9 own9 grow9 at9 lt9; obtain ⟨m9, f9⟩ := L2.mid (by first | exact hkq.alloc _ | exact (hkq.alloc _).drew) (i := 3) (by omega) grow9; have c9 : w9.cell? ⟨gt, 4, none⟩ = some (v2 3) := m9 4; have g9 := f9 4; clear m9 f9)))
                    all_goals
                      have LN := L2.push (by first | exact hkq.alloc _ | exact (hkq.alloc _).drew) (Rq.below (by first | exact ((Below.refl _ _).alloc (Nat.le_refl _) _) | exact ((Below.refl _ _).alloc (Nat.le_refl _) _).drew)) (i := 3) (off := 4) (by omega) rfl (show l2 s (j + 1) (j + 1) j j 3 = optP s 270 8 j from rfl) (optP_len s 270 8 j) own9 grow9 (by simpa using at9)
                      rw [← hNv, l2_three] at LN
                      go_wp2
                      go_meet
                      exact ⟨_, LN⟩
                  case rest =>
                    obtain ⟨v3, L3⟩ := hcut
                    clear a0 a1 a2 a3 a4 a5 a6 a7 hgt L2
                    have hgt : gt < wc.heap.size := L3.lt
                    obtain ⟨a0, a1, a2, a3, a4, a5, a6, a7⟩ := row_A L3.row
                    have hoff : 270 + 8 * j + 2 = 272 + 8 * j := by omega
                    rw [hoff] at L3
                    clear hoff
                    go_wp2
                    have cN := fun wx (hb : Below wc.heap.size wc wx) => Rd.entry (L3.rd.below hb) (by omega) hs
                    generalize hNv : optN s (272 + 8 * j) = xv at *
                    go_region_law ((first | (refine step_go1 (by rfl) 107 (.tmp 98) #[149] (by rfl) (.pointer (some ⟨p, 0, none⟩)) (by rfl) (.int .i64 xv) _ (enterEntry _ _) (cN _ (by first | exact Below.refl _ _ | exact (Below.refl _ _).drew)) ?_; rintro wq ⟨Rq, Kq⟩; have hkq : Kept (fun b => b = p) wc wq := (by first | exact Kq | exact (Kept.refl _ _).drew.trans Kq); have hgq : gt < wq.heap.size := Nat.lt_of_lt_of_le hgt hkq.size; have d2 : wq.cell? ⟨gt, 5, none⟩ = some (v3 4) := (World.cell?_of_block (hkq.block gt hgt hgp)).trans a5) | (refine step_append_lies _ (by rfl) (.tmp 97) (.tmp 100) 33 (by rfl) (gt + 1) 3 i0 _ 1 8 Try.underlying33 hi hz0 hz1 hz2 rfl (by omega) (v3 4) j ((optP s 272 8 j).map intV) (by rfl) (L3.ownAt (i := 4) (xs := optP s 272 8 j) (by omega) (show l2 s (j + 1) (j + 1) (j + 1) j 4 = optP s 272 8 j from rfl) (optP_len s 272 8 j) (by first | exact hkq.alloc _ | exact (hkq.alloc _).drew)) ⟨wq.heap.size, 0, none⟩ 1 1 [.int .i64 xv] (by rfl) rfl (one_new (by first | exact heap_alloc_new _ _ | exact row_drew (heap_alloc_new _ _))) (by intro u hu; simp at hu; subst hu; rfl) (by omega) (by unfold maxLen; omega) (by omega) (by simp; omega) (wq.heap.size + 1) (by simp) ?_; intro gg cc w9 own9 grow9 at9 lt9; obtain ⟨m9, f9⟩ := L3.mid (by first | exact hkq.alloc _ | exact (hkq.alloc _).drew) (i := 4) (by omega) grow9; have c9 : w9.cell? ⟨gt, 5, none⟩ = some (v3 4) := m9 5; have g9 := f9 5; clear m9 f9)))
                    all_goals
                      have LN := L3.push (by first | exact hkq.alloc _ | exact (hkq.alloc _).drew) (Rq.below (by first | exact ((Below.refl _ _).alloc (Nat.le_refl _) _) | exact ((Below.refl _ _).alloc (Nat.le_refl _) _).drew)) (i := 4) (off := 5) (by omega) rfl (show l2 s (j + 1) (j + 1) (j + 1) j 4 = optP s 272 8 j from rfl) (optP_len s 272 8 j) own9 grow9 (by simpa using at9)
                      rw [← hNv, l2_four] at LN
                      rw [show 272 + 8 * j + 2 = 266 + 8 * (j + 1) by omega] at LN
                      go_wp2
                      go_roundw
                      case rel =>
                        first | exact ⟨j + 1, by omega, by go_num, _, LN⟩ | ((repeat apply Exists.intro); exact ⟨⟨j + 1, by omega, by go_num, _, LN⟩, rfl⟩)
                      case measure => simp [intOf]; omega
            · have hjn : j = n := by omega
              rw [hjn, l3_zero] at L
              clear hjn
              go_wp2
              go_loopw [105] (fun i wr => ∃ q : Nat, q ≤ sl ∧ i = .int .i64 q ∧ ∃ v, RdSt w X m p g cap s gt wd wr v (l3 s n q q) (266 + 8 * n + 4 * q))
                (fun i _ => sl - (intOf i).toNat)
              case atStart => exact ⟨0, by omega, rfl, _, L⟩
              case round =>
                clear L
                obtain ⟨q, hq, rfl, v, L⟩ := hrel
                by_cases hlt3 : q < sl
                · have HLn : 268 + 8 * (n : Int) + 4 * (sl : Int) ≤ (s.size : Int) := by have := HZ.out; omega
                  have hq2 : (q : Int) < (sl : Int) := by omega
                  have hgt : gt < wr.heap.size := L.lt
                  obtain ⟨a0, a1, a2, a3, a4, a5, a6, a7⟩ := row_A L.row
                  go_upto_region 23 with fail
                  go_cut [] from 107 to 121 (fun wx => ∃ v', RdSt w X m p g cap s gt wd wx v' (l3 s n (q + 1) q) (266 + 8 * n + 4 * q + 2))
                  case first =>
                    have cN := fun wx (hb : Below wr.heap.size wr wx) => Rd.number (L.rd.below hb) (by omega) hs
                    generalize hNv : numN s (266 + 8 * n + 4 * q) = xv at *
                    go_region_law ((first | (refine step_go1 (by rfl) 106 (.tmp 109) #[149] (by rfl) (.pointer (some ⟨p, 0, none⟩)) (by rfl) (.int .i64 (xv : Int)) _ (enterNumber _ _) (cN _ (by first | exact Below.refl _ _ | exact (Below.refl _ _).drew)) ?_; rintro wq ⟨Rq, Kq⟩; have hkq : Kept (fun b => b = p) wr wq := (by first | exact Kq | exact (Kept.refl _ _).drew.trans Kq); have hgq : gt < wq.heap.size := Nat.lt_of_lt_of_le hgt hkq.size; have d2 : wq.cell? ⟨gt, 6, none⟩ = some (v 5) := (World.cell?_of_block (hkq.block gt hgt hgp)).trans a6) | (refine step_append_lies _ (by rfl) (.tmp 108) (.tmp 111) 33 (by rfl) (gt + 1) 3 i0 _ 1 8 Try.underlying33 hi hz0 hz1 hz2 rfl (by omega) (v 5) q ((numP s (266 + 8 * n) 4 q).map intV) (by rfl) (L.ownAt (i := 5) (xs := numP s (266 + 8 * n) 4 q) (by omega) (show l3 s n q q 5 = numP s (266 + 8 * n) 4 q from rfl) (numP_len s (266 + 8 * n) 4 q) (by first | exact hkq.alloc _ | exact (hkq.alloc _).drew)) ⟨wq.heap.size, 0, none⟩ 1 1 [.int .i64 (xv : Int)] (by rfl) rfl (one_new (by first | exact heap_alloc_new _ _ | exact row_drew (heap_alloc_new _ _))) (by intro u hu; simp at hu; subst hu; rfl) (by omega) (by unfold maxLen; omega) (by omega) (by simp; omega) (wq.heap.size + 1) (by simp) ?_; intro gg cc w9 own9 grow9 at9 lt9; obtain ⟨m9, f9⟩ := L.mid (by first | exact hkq.alloc _ | exact (hkq.alloc _).drew) (i := 5) (by omega) grow9; have c9 : w9.cell? ⟨gt, 6, none⟩ = some (v 5) := m9 6; have g9 := f9 6; clear m9 f9)))
                    all_goals
                      have LN := L.push (by first | exact hkq.alloc _ | exact (hkq.alloc _).drew) (Rq.below (by first | exact ((Below.refl _ _).alloc (Nat.le_refl _) _) | exact ((Below.refl _ _).alloc (Nat.le_refl _) _).drew)) (i := 5) (off := 6) (by omega) rfl (show l3 s n q q 5 = numP s (266 + 8 * n) 4 q from rfl) (numP_len s (266 + 8 * n) 4 q) own9 grow9 (by simpa using at9)
                      rw [← hNv, l3_one] at LN
                      go_wp2
                      go_meet
                      exact ⟨_, LN⟩
                  case rest =>
                    obtain ⟨v1, L1⟩ := hcut
                    clear a0 a1 a2 a3 a4 a5 a6 a7 hgt L
                    have hgt : gt < wc.heap.size := L1.lt
                    obtain ⟨a0, a1, a2, a3, a4, a5, a6, a7⟩ := row_A L1.row
                    go_wp2
                    have hoff : 266 + 8 * n + 4 * q + 2 = 268 + 8 * n + 4 * q := by omega
                    rw [hoff] at L1
                    have cN := fun wx (hb : Below wc.heap.size wc wx) => Rd.entry (L1.rd.below hb) (by omega) hs
                    generalize hNv : optN s (268 + 8 * n + 4 * q) = xv at *
                    go_region_law ((first | (refine step_go1 (by rfl) 107 (.tmp 116) #[149] (by rfl) (.pointer (some ⟨p, 0, none⟩)) (by rfl) (.int .i64 xv) _ (enterEntry _ _) (cN _ (by first | exact Below.refl _ _ | exact (Below.refl _ _).drew)) ?_; rintro wq ⟨Rq, Kq⟩; have hkq : Kept (fun b => b = p) wc wq := (by first | exact Kq | exact (Kept.refl _ _).drew.trans Kq); have hgq : gt < wq.heap.size := Nat.lt_of_lt_of_le hgt hkq.size; have d2 : wq.cell? ⟨gt, 7, none⟩ = some (v1 6) := (World.cell?_of_block (hkq.block gt hgt hgp)).trans a7) | (refine step_append_lies _ (by rfl) (.tmp 115) (.tmp 118) 33 (by rfl) (gt + 1) 3 i0 _ 1 8 Try.underlying33 hi hz0 hz1 hz2 rfl (by omega) (v1 6) q ((optP s (268 + 8 * n) 4 q).map intV) (by rfl) (L1.ownAt (i := 6) (xs := optP s (268 + 8 * n) 4 q) (by omega) (show l3 s n (q + 1) q 6 = optP s (268 + 8 * n) 4 q from rfl) (optP_len s (268 + 8 * n) 4 q) (by first | exact hkq.alloc _ | exact (hkq.alloc _).drew)) ⟨wq.heap.size, 0, none⟩ 1 1 [.int .i64 xv] (by rfl) rfl (one_new (by first | exact heap_alloc_new _ _ | exact row_drew (heap_alloc_new _ _))) (by intro u hu; simp at hu; subst hu; rfl) (by omega) (by unfold maxLen; omega) (by omega) (by simp; omega) (wq.heap.size + 1) (by simp) ?_; intro gg cc w9 own9 grow9 at9 lt9; obtain ⟨m9, f9⟩ := L1.mid (by first | exact hkq.alloc _ | exact (hkq.alloc _).drew) (i := 6) (by omega) grow9; have c9 : w9.cell? ⟨gt, 7, none⟩ = some (v1 6) := m9 7; have g9 := f9 7; clear m9 f9)))
                    all_goals
                      have LN := L1.push (by first | exact hkq.alloc _ | exact (hkq.alloc _).drew) (Rq.below (by first | exact ((Below.refl _ _).alloc (Nat.le_refl _) _) | exact ((Below.refl _ _).alloc (Nat.le_refl _) _).drew)) (i := 6) (off := 7) (by omega) rfl (show l3 s n (q + 1) q 6 = optP s (268 + 8 * n) 4 q from rfl) (optP_len s (268 + 8 * n) 4 q) own9 grow9 (by simpa using at9)
                      rw [← hNv, l3_two] at LN
                      rw [show 268 + 8 * n + 4 * q + 2 = 266 + 8 * n + 4 * (q + 1) by omega] at LN
                      go_wp2
                      go_roundw
                      case rel =>
                        first | exact ⟨q + 1, by omega, by go_num, _, LN⟩ | ((repeat apply Exists.intro); exact ⟨⟨q + 1, by omega, by go_num, _, LN⟩, rfl⟩)
                      case measure => simp [intOf]; omega
                · have hqs : q = sl := by omega
                  rw [hqs] at L
                  clear hqs
                  have hpos : 266 + 8 * n + 4 * sl = s.size - 2 := by have := HZ.out; omega
                  rw [hpos] at L
                  clear hpos
                  obtain ⟨z0, z1, z2⟩ := row_three L.rd.cur
                  have hsm := sumF_lt (s.data.toList.take (s.size - 2))
                  have cN := L.rd.number (by omega) hs
                  have HP2 : Hid (loadC s = if ¬sumF (s.data.toList.take (s.size - 2)) = numN s (s.size - 2) then 5 else if tabB (loadT s) = false then 6 else 0) := by show _ = _; rw [HP.out, if_neg (not_not_intro HZ.out), extract_take]
                  clear HP
                  generalize sumF (s.data.toList.take (s.size - 2)) = sm at *
                  have hnl := numN_le s (s.size - 2)
                  generalize numN s (s.size - 2) = zz at *
                  have hpl2 : p < wr.heap.size := row_lt L.rd.cur
                  by_cases hzz : sm = zz
                  case neg =>
                    have HC : Hid (loadC s = 5) := by show _ = _; rw [HP2.out, if_pos hzz]
                    have hb : ((zz : Int) == (sm : Int)) = false := by simp; omega
                    clear hzz
                    go_wp2_with fail
                    refine cN.mono ?_
                    rintro e w8 ⟨rfl, R8, K8⟩
                    go_wp2_with fail
                    refine (must_no 5 _ _ (by first | rfl | exact hb)).mono ?_
                    rintro e w9 ⟨rfl, rfl⟩
                    exact die_post (P := Try.prog) (fn := Try.f82) rfl (RdAns.bad (L.kept.trans K8) HC.out (by decide))
                  subst hzz
                  have HP3 : Hid (loadC s = if tabB (loadT s) = false then 6 else 0) := by show _ = _; rw [HP2.out, if_neg (by simp)]
                  clear HP2
                  have hbb : ((sm : Int) == (sm : Int)) = true := by simp
                  go_wp2_with fail
                  refine cN.mono ?_
                  rintro e w8 ⟨rfl, R8, K8⟩
                  clear cN
                  go_wp2_with fail
                  refine (must_yes 5 _ _ (by first | rfl | exact hbb)).mono ?_
                  rintro e w9 ⟨rfl, rfl⟩
                  clear z0 z1 z2 hbb hpl2
                  have hgt : gt < wr.heap.size := L.lt
                  have hov := L.over
                  have hrow := K8.row L.row hgp
                  have hres := K8.row L.res hne2
                  have hkept := L.kept.trans K8
                  have fam8 : Fam gt 7 w9 v (l3 s n sl sl) := L.fam.keep fun b hb hl => K8.block b hl (by omega)
                  have hsl2 : sl ≤ 60000 := by omega
                  have hlens := l3_len s n sl (by omega) hsl2
                  have o : ∀ i, i < 7 → IntsAt (gt + 1) w9 (v i) (l3 s n sl sl i) := fun i hi => (fam8.own i hi).at (by have := hlens i hi; omega)
                  have T : TabAt (gt + 1) w9 (v 0) (v 1) (v 2) (v 3) (v 4) (v 5) (v 6) (tabOf wd (l3 s n sl sl)) := ⟨o 0 (by omega), o 1 (by omega), o 2 (by omega), o 3 (by omega), o 4 (by omega), o 5 (by omega), o 6 (by omega)⟩
                  have hsmall : TabSmall (tabOf wd (l3 s n sl sl)) := by
                    intro xs hx
                    simp only [TabD.lists, tabOf, List.mem_cons, List.not_mem_nil, or_false] at hx
                    rcases hx with rfl | rfl | rfl | rfl | rfl | rfl | rfl
                    · exact hlens 0 (by omega)
                    · exact hlens 1 (by omega)
                    · exact hlens 2 (by omega)
                    · exact hlens 3 (by omega)
                    · exact hlens 4 (by omega)
                    · exact hlens 5 (by omega)
                    · exact hlens 6 (by omega)
                  clear o hlens R8 K8 L
                  obtain ⟨b0, p0, e0, -⟩ := T.classes
                  obtain ⟨b1, p1, e1, -⟩ := T.base
                  obtain ⟨b2, p2, e2, -⟩ := T.dflt
                  obtain ⟨b3, p3, e3, -⟩ := T.tag
                  obtain ⟨b4, p4, e4, -⟩ := T.fin
                  obtain ⟨b5, p5, e5, -⟩ := T.next
                  obtain ⟨b6, p6, e6, -⟩ := T.chk
                  unfold rowA at hrow
                  unfold zeroA at hres
                  rw [e0, e1, e2, e3, e4, e5, e6] at hrow T
                  obtain ⟨x0, x1, x2, x3, x4, x5, x6, x7⟩ := row_eight hrow
                  have E : Hid (rowA wd v = #[.slice b0 (tabOf wd (l3 s n sl sl)).classes.length p0, .int .i64 wd, .slice b1 (tabOf wd (l3 s n sl sl)).base.length p1, .slice b2 (tabOf wd (l3 s n sl sl)).dflt.length p2, .slice b3 (tabOf wd (l3 s n sl sl)).tag.length p3, .slice b4 (tabOf wd (l3 s n sl sl)).fin.length p4, .slice b5 (tabOf wd (l3 s n sl sl)).next.length p5, .slice b6 (tabOf wd (l3 s n sl sl)).chk.length p6]) := by show _ = _; unfold rowA; rw [e0, e1, e2, e3, e4, e5, e6]
                  clear e0 e1 e2 e3 e4 e5 e6
                  go_wp2_with fail
                  refine (implTableOK_ok _ _ _ _ _ _ _ (tabOf wd (l3 s n sl sl)) _ T hsmall).mono ?_
                  rintro e w10 ⟨rfl, hb10⟩
                  have hF := fam8.below hb10
                  have hkept2 := hkept.trans (.of_below hb10)
                  have hrow8 := row_below hrow hb10
                  have hres8 := row_below hres hb10
                  have fr : ∀ o, w10.frozen? ⟨w.heap.size, o, none⟩ = false := fun _ => frozen_of_row _ _ _ _ _ hres8
                  clear x0 x1 x2 x3 x4 x5 x6 x7 T hb10 hrow hres fam8 hkept hsmall
                  obtain ⟨x0, x1, x2, x3, x4, x5, x6, x7⟩ := row_eight hrow8
                  obtain ⟨y0, y1, y2, y3, y4, y5, y6, y7⟩ := row_eight hres8
                  clear hrow8 hres8
                  rw [HTn.out] at HP3
                  generalize tabB (tabOf wd (l3 s n sl sl)) = tb at *
                  cases tb
                  · have HC : Hid (loadC s = 6) := by show _ = _; rw [HP3.out, if_pos rfl]
                    go_wp2_with fail
                    refine (must_false 6 _).mono ?_
                    rintro e w11 ⟨rfl, rfl⟩
                    exact die_post (P := Try.prog) (fn := Try.f82) rfl (RdAns.bad hkept2 HC.out (by decide))
                  · have HC : Hid (loadC s = 0) := by show _ = _; rw [HP3.out, if_neg (by simp)]
                    have HW := HLn.out HC.out
                    have HWh : Hid (loadW s = wd ∧ loadL s = l3 s n sl sl) := HW
                    clear HW HP3 HLn HTn
                    go_wp2_with fail
                    refine (must_true 6 _).mono ?_
                    rintro e w11 ⟨rfl, rfl⟩
                    go_wp2
                    refine bodyPost_ret (v := .agg (rowA wd v)) (by rw [E.out]; simp [results, Try.results82, go_sem, y0, y1, y2, y3, y4, y5, y6, y7]) rfl ?_
                    refine ⟨hkept2.set8 (Nat.le_refl _) _ _ _ _ _ _ _ _, .inl ⟨HC.out, gt, v, ?_, Nat.le_of_lt hov, ?_⟩⟩
                    · rw [HWh.out.1]
                    · rw [HWh.out.2]
                      exact Fam.set8 hF (Nat.le_of_lt hov) _ _ _ _ _ _ _ _
end Go.Proofs.Ytplhghhfdabccaa
