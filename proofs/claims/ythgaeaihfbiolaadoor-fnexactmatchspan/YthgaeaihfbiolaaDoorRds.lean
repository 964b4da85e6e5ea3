import Derived.Test.YthgaeaihfbiolaaDoorWrGWrH
import Derived.Test.YthgaeaihfbiolaaDoorPosDPosE
import Derived.Deep.RegionHeld3
namespace Go.Proofs.YthgaeaihfbiolaaDoor
open Go.RowKit
attribute [local go_sem ↓] Go.wp_at_zero Go.wp_at_succ

def PosV (w : World) (nw : Nat) (P : Nat → Prop) (v : Value) (w' : World) : Prop :=
  ∃ (g : Nat) (U : Nat → Nat), v = .slice (some ⟨g, 0, none⟩) nw nw ∧ PosAt w' nw g U ∧ Hid (∀ q, bitAt U q = true ↔ P q) ∧ Below w.heap.size w w'
theorem posR_V {f : FuncId} {args : Array Value} {w : World} {nw : Nat} {P : Nat → Prop} (h : Calls Tryd.prog f args w fun e w' => PosR w nw P e w') : Calls Tryd.prog f args w fun e w' => ∃ v, e = .returned v ∧ PosV w nw P v w' :=
  h.mono fun _ _ ⟨g, U, h1, _, h3, h4, h5⟩ => ⟨_, h1, g, U, rfl, h3, h4, h5⟩
theorem enterTaking (xs : Array Value) (w : World) : (callFunc 40 xs).run Tryd.prog w = .ok (.enter 40 xs) w := by kernel_rfl
theorem enterAfter (xs : Array Value) (w : World) : (callFunc 42 xs).run Tryd.prog w = .ok (.enter 42 xs) w := by kernel_rfl

theorem taking_V {B : Nat} {w : World} {n nw bt : Nat} {sv fv : Value} {mk : Nat → Nat} {f : Nat → Nat → Bool} {fr : Nat → Nat} {F : Nat → Nat → Nat} (h : Trk B w n nw bt sv fv mk f fr F) {g : Nat} {T : Nat → Nat} (hp : PosAt w nw g T) (hm : ∀ p, bitAt T p = true → p < n) (c : UInt8) (P : Nat → Prop) (hP : ∀ q, (inT T q ∧ tkOf f q c) ↔ P q) :
    Calls Tryd.prog 40 #[.pointer (some ⟨bt, 0, none⟩), .slice (some ⟨g, 0, none⟩) nw nw, .int .u8 c.toNat] w fun e w' => ∃ v, e = .returned v ∧ PosV w nw P v w' := by
  refine posR_V ((taking_ok n nw bt g nw c.toNat sv fv mk f T w h.box h.setsAt h.mks hp (fun p _ hb => hm p hb) h.nwl c.toNat_lt h.bru (bru_pos h.bru)).mono fun e w' ⟨g', U, h1, h2, h3, h4, h5⟩ => ⟨g', U, h1, h2, h3, fun q => (h4 q).trans (Iff.trans ?_ (hP q)), h5⟩)
  exact ⟨fun k => k.2, fun k => ⟨by have := hm q k.1; have := h.n64; omega, k⟩⟩
theorem after_V {B : Nat} {w : World} {n nw bt : Nat} {sv fv : Value} {mk : Nat → Nat} {f : Nat → Nat → Bool} {fr : Nat → Nat} {F : Nat → Nat → Nat} (h : Trk B w n nw bt sv fv mk f fr F) {g : Nat} {T : Nat → Nat} (hp : PosAt w nw g T) (hm : ∀ p, bitAt T p = true → p < n) (P : Nat → Prop) (hP : ∀ q, (∃ p, inT T p ∧ folOf F p q) ↔ P q) :
    Calls Tryd.prog 42 #[.pointer (some ⟨bt, 0, none⟩), .slice (some ⟨g, 0, none⟩) nw nw] w fun e w' => ∃ v, e = .returned v ∧ PosV w nw P v w' := by
  refine posR_V ((after_ok n nw bt g nw sv fv fr F T w h.box (fun hn => ?_) h.fol hp (fun p _ hb => hm p hb) h.nwl h.bru (bru_pos h.bru)).mono fun e w' ⟨g', U, h1, h2, h3, h4, h5⟩ => ⟨g', U, h1, h2, h3, fun q => (h4 q).trans (Iff.trans ?_ (hP q)), h5⟩)
  · obtain ⟨gf, cf, cur, k1, k2, k3⟩ := h.l.fv hn
    refine ⟨gf, cf, k1, (Array.getElem?_eq_some_iff.1 k2).1, fun p hp => by rw [cell_of_row _ _ _ _ _ _ k2]; exact k3 p hp, fun p hp e => ?_⟩
    have := (h.fol.rows p hp).row
    rw [e, k2] at this
    exact absurd (cells_type this) (by decide)
  · exact ⟨fun ⟨p, _, k⟩ => ⟨p, k⟩, fun ⟨p, k⟩ => ⟨p, by have := hm p k.1; have := h.n64; omega, k⟩⟩

theorem toListR_loop (b : ByteArray) : ∀ (n i : Nat) (r : List UInt8), b.size - i = n → ByteArray.toList.loop b i r = r.reverse ++ b.data.toList.drop i
  | 0, i, r, h => by
    rw [ByteArray.toList.loop, if_neg (by omega), List.drop_eq_nil_of_le (by rw [Array.length_toList]; show b.size ≤ i; omega)]
    simp
  | n + 1, i, r, h => by
    have hi : i < b.data.size := by show i < b.size; omega
    have hg : b.get! i = b.data[i] := by simp only [ByteArray.get!]; exact getElem!_pos b.data i hi
    rw [ByteArray.toList.loop, if_pos (by omega), toListR_loop b n (i + 1) _ (by omega), List.drop_eq_getElem_cons (i := i) (by simpa using hi), hg]
    simp
theorem toListR_eq (b : ByteArray) : b.toList = b.data.toList := by
  unfold ByteArray.toList
  rw [toListR_loop b b.size 0 [] (by omega)]
  simp
theorem toListR_empty (b : ByteArray) (h : b.size ≠ 0) : b.toList.isEmpty = false := by
  rw [toListR_eq]
  cases hb : b.data.toList with
  | nil => exact absurd (by rw [← ByteArray.size_data, ← Array.length_toList, hb]; rfl) h
  | cons a l => rfl
def ReadR (w : World) (M : Prop) (e : Ending) (W : World) : Prop := ∃ r : Bool, e = .returned (.bool r) ∧ (r = true ↔ M) ∧ Below w.heap.size w W
theorem rd_all {tk : Nat → UInt8 → Prop} {fol : Nat → Nat → Prop} {D : Nat → Prop} {e : Prop} {A L : Nat → Nat} {M : Word → Prop} (hG : Good tk fol D e (inT A) (inT L) M) {nw n : Nat} (hD : ∀ p, D p → p < n) (hn : n ≤ 64 * nw) {U : Nat → Nat} (hU : ∀ i, U i < 18446744073709551616) (u : Word) (hu : u ≠ []) (h : ∀ q, bitAt U q = true ↔ Run tk fol (inT A) u q) : meetB nw U L = true ↔ M u := by
  rw [meetB_iff _ _ _ hU, ← hG.lang u, acc_some hu]
  exact ⟨fun ⟨p, _, h1, h2⟩ => ⟨p, (h p).1 h1, h2⟩, fun ⟨p, h1, h2⟩ => ⟨p, by have := hD p (h1.inside hG.fi hG.fo); omega, (h p).2 h1, h2⟩⟩
theorem rd_none {tk : Nat → UInt8 → Prop} {fol : Nat → Nat → Prop} {D : Nat → Prop} {e : Prop} {A L : Nat → Nat} {M : Word → Prop} (hG : Good tk fol D e (inT A) (inT L) M) {nw n : Nat} (hD : ∀ p, D p → p < n) (hn : n ≤ 64 * nw) {U : Nat → Nat} (hU : ∀ i, U i < 18446744073709551616) (u : Word) (k : Nat) (hu : u.take k ≠ []) (h : ∀ q, bitAt U q = true ↔ Run tk fol (inT A) (u.take k) q) (hm : meetB nw U U = false) : meetB nw U L = true ↔ M u := by
  have hno : ∀ p, ¬Run tk fol (inT A) (u.take k) p := fun p hp => by
    have := (meetB_iff nw U U hU).2 ⟨p, by have := hD p (hp.inside hG.fi hG.fo); omega, (h p).2 hp, (h p).2 hp⟩
    rw [hm] at this
    cases this
  constructor
  · intro h1
    obtain ⟨p, _, h2, _⟩ := (meetB_iff nw U L hU).1 h1
    exact absurd ((h p).1 h2) (hno p)
  · intro h1
    have hne : u ≠ [] := fun e => hu (by rw [e]; simp)
    obtain ⟨p, hp, _⟩ := (acc_some hne).1 ((hG.lang u).2 h1)
    have := run_dead hu hno (u.drop k) p
    rw [List.take_append_drop] at this
    exact absurd hp this
theorem take_ne (t : ByteArray) (k : Nat) (h1 : 1 ≤ k) (h2 : 0 < t.size) : t.data.toList.take k ≠ [] := fun e => by
  have h3 : (t.data.toList.take k).length = 0 := by rw [e]; rfl
  rw [List.length_take, Array.length_toList] at h3
  have h4 : t.data.size = t.size := rfl
  omega
theorem take_snoc (t : ByteArray) (k : Nat) (h : k < t.size) : t.data.toList.take (k + 1) = t.data.toList.take k ++ [t[k]] := by
  rw [List.take_add_one, List.getElem?_eq_getElem (by simpa using h)]; rfl
/-- Where reading stands: the text's first k bytes are read. -/
def RdI (w : World) (nw : Nat) (R : Word → Nat → Prop) (u : Word) (g k : Nat) (wr : World) : Prop := ∃ U, PosAt wr nw g U ∧ Hid (∀ q, bitAt U q = true ↔ R (u.take k) q) ∧ Below w.heap.size w wr

set_option maxRecDepth 100000 in
set_option maxHeartbeats 4000000 in
theorem reads_ok {B : Nat} {w : World} {n nw bt : Nat} {sv fv : Value} {mk : Nat → Nat} {f : Nat → Nat → Bool} {fr : Nat → Nat} {F : Nat → Nat → Nat} (h : Trk B w n nw bt sv fv mk f fr F) {ga gl : Nat} {A L : Nat → Nat} (hf : FrAt w nw ga gl A L) {D : Nat → Prop} {b : Bool} {M : Word → Prop} (hG : Good (tkOf f) (folOf F) D (b = true) (inT A) (inT L) M) (hD : ∀ p, D p → p < n) (t : ByteArray) (ht : t.size ≤ 4096) :
    Calls Tryd.prog 22 #[.pointer (some ⟨bt, 0, none⟩), .agg #[.bool b, .slice (some ⟨ga, 0, none⟩) nw nw, .slice (some ⟨gl, 0, none⟩) nw nw], .string t] w fun e W => ReadR w (M t.data.toList) e W := by
  obtain ⟨W0, hW0⟩ : ∃ W0, w.alloc (.cells #[.bool b, .slice (some ⟨ga, 0, none⟩) nw nw, .slice (some ⟨gl, 0, none⟩) nw nw] 50) = W0 := ⟨_, rfl⟩
  have hb0 : Below w.heap.size w W0 := by rw [← hW0]; exact (Below.refl _ _).alloc (Nat.le_refl _) _
  have x0 : W0.heap[w.heap.size]? = some (.cells #[.bool b, .slice (some ⟨ga, 0, none⟩) nw nw, .slice (some ⟨gl, 0, none⟩) nw nw] 50 (0, 0)) := by rw [← hW0]; exact heap_alloc_new _ _
  obtain ⟨a0, a1, a2, -, -, -⟩ := row_threeF x0
  have hnw := h.nwl
  have hL : t.data.toList.length = t.size := by simp
  by_cases h0 : t.size = 0
  · have ht0 : t = ⟨#[]⟩ := by
      have : t.data.size = 0 := h0
      cases t; congr 1; exact Array.eq_empty_of_size_eq_zero this
    subst ht0
    have hE : (⟨#[]⟩ : ByteArray).toList.isEmpty = true := by rw [toListR_eq]; rfl
    go_enter Tryd.func22, Tryd.ntmps22
    go_wp2
    go_ret
    exact ⟨b, rfl, hG.empty, hb0⟩
  · have hE := toListR_empty t h0
    go_enter Tryd.func22, Tryd.ntmps22
    have hpos : 0 < t.size := by omega
    have hA : ∀ p, bitAt A p = true → p < n := fun p hp => hD p (hG.fi p hp)
    have hRun : Hid (∀ u p, Run (tkOf f) (folOf F) (inT A) u p → p < n) := fun u p hr => hD p (hr.inside hG.fi hG.fo)
    have hb0d : Below w.heap.size w W0.drew := hb0.drew
    have hs0 : w.heap.size < W0.heap.size := (Array.getElem?_eq_some_iff.1 x0).1
    have hone : t.data.toList.take 1 = [t[0]] := by
      rw [List.take_one, List.head?_eq_getElem?, List.getElem?_eq_getElem (by simpa using hpos)]; rfl
    have htk := taking_V (h.below hb0d) (hf.fi.below hb0d) hA (t[0]'hpos) (fun q => Run (tkOf f) (folOf F) (inT A) (t.data.toList.take 1) q) (fun q => by rw [hone]; exact run_one.symm)
    clear hone h0 hA
    go_wp2
    clear hW0
    go_region_held3 (fun w' => w'.cell? ⟨w.heap.size, 1, none⟩ = some (.slice (some ⟨ga, 0, none⟩) nw nw)) ((first | exact a1 | exact (hb1.cell hs0).trans a1 | go_keep)) ((go_at_call 40; refine htk.mono ?_; rintro e w1 ⟨_, rfl, g1, U1, rfl, hp1, HU1, hb1⟩))
    have hI : RdI W0 nw (fun u q => Run (tkOf f) (folOf F) (inT A) u q) t.data.toList g1 1 w1 := ⟨U1, hp1, HU1, ⟨hb1.os, hb1.tape, hb1.output, hb1.size, hb1.block⟩⟩
    clear htk HU1 hp1 hb1
    go_wp2
    go_loopw [7, 8] (fun now i wr => ∃ g k : Nat, 1 ≤ k ∧ k ≤ t.size ∧ now = .slice (some ⟨g, 0, none⟩) nw nw ∧ i = .int .i64 k ∧ RdI W0 nw (fun u q => Run (tkOf f) (folOf F) (inT A) u q) t.data.toList g k wr)
      (fun _ i _ => t.size - (intOf i).toNat)
    case atStart => exact ⟨g1, 1, Nat.le_refl _, hpos, rfl, rfl, hI⟩
    case round =>
      clear hI
      obtain ⟨g, k, hk1, hk, rfl, rfl, U, hp, HU, hbr⟩ := hrel
      have hc2 := (row_threeF ((hbr.block _ hs0).trans x0)).2.2.1
      have hbw : Below w.heap.size w wr := hb0.trans (hbr.mono (by omega))
      have hsr := hbw.size
      have hfr := hf.below hbw
      have hlast : ∀ (W : World), Below wr.heap.size wr W → Calls Tryd.prog 43 #[.slice (some ⟨g, 0, none⟩) nw nw, .slice (some ⟨gl, 0, none⟩) nw nw] W fun e w' => e = .returned (.bool (meetB nw U L)) ∧ Below W.heap.size W w' := fun W hb => meets_ok nw g gl nw nw U L W (hp.below hb) (hfr.la.below hb) hnw
      by_cases hlt : k < t.size
      · have hem := isEmpty_ok nw g nw U wr hp hnw
        have hi1 : (k : Int) < (t.size : Int) := by omega
        have hi0 : (0 : Int) ≤ (k : Int) := by omega
        cases hm : meetB nw U U
        · have Hfin : Hid (meetB nw U L = true ↔ M t.data.toList) := rd_none hG hD h.n64 hp.lt _ k (take_ne t k hk1 hpos) HU.out hm
          rw [hm] at hem
          go_wp2_with (first | (go_at_call 41; refine hem.mono ?_; rintro e w2 ⟨rfl, hb2⟩; have hc3 := (hb2.cell (p := ⟨w.heap.size, 2, none⟩) (by show w.heap.size < wr.heap.size; have := hbr.size; omega)).trans hc2) | (go_at_call 43; refine (hlast w2 hb2).mono ?_; rintro e w3 ⟨rfl, hb3⟩))
          go_ret
          exact ⟨_, rfl, Hfin.out, hbw.trans ((hb2.trans (hb3.mono hb2.size)).mono hsr)⟩
        · rw [hm] at hem
          have hUn : ∀ p, bitAt U p = true → p < n := fun p hp => hRun.out _ _ ((HU.out p).1 hp)
          have haf : ∀ (W : World), Below wr.heap.size wr W → Calls Tryd.prog 42 #[.pointer (some ⟨bt, 0, none⟩), .slice (some ⟨g, 0, none⟩) nw nw] W fun e w' => ∃ v, e = .returned v ∧ PosV W nw (fun q => ∃ p, Run (tkOf f) (folOf F) (inT A) (t.data.toList.take k) p ∧ folOf F p q) v w' := fun W hb => after_V ((h.below hbw).below hb) (hp.below hb) hUn _ (fun q => exists_congr fun p => and_congr_left fun _ => HU.out p)
          have htk : ∀ (W : World) (g3 : Nat) (U3 : Nat → Nat), Below wr.heap.size wr W → PosAt W nw g3 U3 → Hid (∀ q, bitAt U3 q = true ↔ ∃ p, Run (tkOf f) (folOf F) (inT A) (t.data.toList.take k) p ∧ folOf F p q) → Calls Tryd.prog 40 #[.pointer (some ⟨bt, 0, none⟩), .slice (some ⟨g3, 0, none⟩) nw nw, .int .u8 (t[k]'hlt).toNat] W fun e w' => ∃ v, e = .returned v ∧ PosV W nw (fun q => Run (tkOf f) (folOf F) (inT A) (t.data.toList.take (k + 1)) q) v w' := fun W g3 U3 hb hp3 HU3 => taking_V ((h.below hbw).below hb) hp3 (fun p hq => by obtain ⟨r, hr, hfo⟩ := (HU3.out p).1 hq; exact hD p (hG.fo r p (hr.inside hG.fi hG.fo) hfo)) (t[k]'hlt) _ (fun q => by
              rw [take_snoc t k hlt, run_snoc (take_ne t k hk1 hpos)]
              exact ⟨fun ⟨a, b⟩ => by obtain ⟨r, hr, hfo⟩ := (HU3.out q).1 a; exact ⟨r, hr, hfo, b⟩, fun ⟨r, hr, hfo, b⟩ => ⟨(HU3.out q).2 ⟨r, hr, hfo⟩, b⟩⟩)
          clear hc2 hlast
          go_wp2_with (go_at_call 41; refine hem.mono ?_; rintro e w2 ⟨rfl, hb2⟩)
          have hb2d : Below wr.heap.size wr w2.drew := hb2.drew
          go_region_held3 (fun _ => True) (trivial) ((first | (go_at_call 42; refine (haf _ hb2d).mono ?_; rintro e w3 ⟨_, rfl, g3, U3, rfl, hp3, HU3, hb3⟩; have hb3' : Below wr.heap.size wr w3 := hb2d.trans (hb3.mono hb2d.size)) | (go_at_call 40; refine (htk _ g3 U3 hb3' hp3 HU3).mono ?_; rintro e w4 ⟨_, rfl, g4, U4, rfl, hp4, HU4, hb4⟩)))
          go_wp2
          all_goals exact ⟨⟨g4, k + 1, by omega, by omega, rfl, by go_num, U4, hp4, HU4, hbr.trans ((hb3'.trans (hb4.mono hb3'.size)).mono hbr.size)⟩, by simp [intOf]; omega⟩
      · have Hfin : Hid (meetB nw U L = true ↔ M t.data.toList) := rd_all hG hD h.n64 hp.lt _ (fun e => by rw [e] at hL; simp at hL; omega) (fun q => by have := HU.out q; rw [List.take_of_length_le (by omega)] at this; exact this)
        go_wp2_with (go_at_call 43; refine (hlast wr (Below.refl _ _)).mono ?_; rintro e w3 ⟨rfl, hb3⟩)
        go_ret
        exact ⟨_, rfl, Hfin.out, hbw.trans (hb3.mono hsr)⟩
end Go.Proofs.YthgaeaihfbiolaaDoor
