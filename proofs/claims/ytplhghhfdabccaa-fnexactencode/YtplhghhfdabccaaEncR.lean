import Derived.Test.YtplhghhfdabccaaEnc
import Derived.Test.YtplhghhfdabccaaLook
namespace Go.Proofs.Ytplhghhfdabccaa
open Go.RowKit
attribute [local go_sem ↓] Go.wp_at_zero Go.wp_at_succ

/- THE IMAGE OF A TABLE. -/
def ttagAt (d : TabD) (s : Nat) : Int := d.tag.getD s 0
def tendAt (d : TabD) (s : Nat) : Int := d.fin.getD s 0
def headL (d : TabD) : List UInt8 := [88, 68, 70, 49] ++ twoL d.base.length ++ twoL d.width ++ twoL d.next.length
def clsL (d : TabD) (k : Nat) : List UInt8 := headL d ++ (List.range k).map fun c => UInt8.ofNat (tclsAt d c).toNat
def stateL (d : TabD) (s : Nat) : List UInt8 := twoL (baseAt d s) ++ twoL (dfltAt d s) ++ twoL (ttagAt d s) ++ twoL (tendAt d s)
def statesL (d : TabD) (k : Nat) : List UInt8 := clsL d 256 ++ (List.range k).flatMap (stateL d)
def slotL (d : TabD) (k : Nat) : List UInt8 := twoL (tnextAt d k) ++ twoL (chkAt d k)
def slotsL (d : TabD) (k : Nat) : List UInt8 := statesL d d.base.length ++ (List.range k).flatMap (slotL d)
def rawL (d : TabD) : List UInt8 := slotsL d d.next.length
def imageL (d : TabD) : List UInt8 := rawL d ++ twoL (sumF (rawL d))
/-- What Encode answers. -/
def encF (d : TabD) : ByteArray := if tabB d then ⟨(imageL d).toArray⟩ else ⟨#[]⟩

theorem clsL_zero (d : TabD) : clsL d 0 = headL d := by simp [clsL]
theorem clsL_succ (d : TabD) (k : Nat) : clsL d (k + 1) = clsL d k ++ [UInt8.ofNat (tclsAt d k).toNat] := by simp [clsL, List.range_succ]
theorem statesL_zero (d : TabD) : statesL d 0 = clsL d 256 := by simp [statesL]
theorem statesL_succ (d : TabD) (k : Nat) : statesL d (k + 1) = statesL d k ++ twoL (baseAt d k) ++ twoL (dfltAt d k) ++ twoL (ttagAt d k) ++ twoL (tendAt d k) := by simp [statesL, List.range_succ, stateL]
theorem slotsL_zero (d : TabD) : slotsL d 0 = statesL d d.base.length := by simp [slotsL]
theorem slotsL_succ (d : TabD) (k : Nat) : slotsL d (k + 1) = slotsL d k ++ twoL (tnextAt d k) ++ twoL (chkAt d k) := by simp [slotsL, List.range_succ, slotL]
theorem headL_len (d : TabD) : (headL d).length = 10 := rfl
theorem clsL_len (d : TabD) (k : Nat) : (clsL d k).length = 10 + k := by simp [clsL, headL_len]
theorem statesL_len (d : TabD) : ∀ k, (statesL d k).length = 266 + 8 * k
  | 0 => by rw [statesL_zero, clsL_len]
  | k + 1 => by rw [statesL_succ]; simp only [List.length_append, twoL_len, statesL_len d k]; omega
theorem slotsL_len (d : TabD) : ∀ k, (slotsL d k).length = 266 + 8 * d.base.length + 4 * k
  | 0 => by rw [slotsL_zero, statesL_len]; rfl
  | k + 1 => by rw [slotsL_succ]; simp only [List.length_append, twoL_len, slotsL_len d k]; omega

/-- Writing an image: the box of the table stands, the bytes so far are a row of the call's own. -/
structure EncSt (w : World) (C : Array Value) (wr : World) (g cap : Nat) (bs : List UInt8) : Prop where
  below : Below (w.heap.size + 1) (w.alloc (.cells C 48)) wr
  own : Bytes (w.heap.size + 1) wr g cap bs
theorem EncSt.size {w wr : World} {C : Array Value} {g cap : Nat} {bs : List UInt8} (h : EncSt w C wr g cap bs) : w.heap.size + 1 ≤ wr.heap.size := by
  have := h.below.size; simpa using this
theorem EncSt.low {w wr : World} {C : Array Value} {g cap : Nat} {bs : List UInt8} (h : EncSt w C wr g cap bs) : Below w.heap.size w wr :=
  ((Below.refl _ _).alloc (Nat.le_refl _) _).trans (h.below.mono (by omega))
theorem EncSt.row {w wr : World} {C : Array Value} {g cap : Nat} {bs : List UInt8} (h : EncSt w C wr g cap bs) : wr.heap[w.heap.size]? = some (.cells C 48 (0, 0)) := by
  rw [h.below.block w.heap.size (by omega)]; exact heap_alloc_new _ _
theorem EncSt.step {w wr w' : World} {C : Array Value} {g cap g' cap' : Nat} {bs bs' : List UInt8} (h : EncSt w C wr g cap bs) (ho : Bytes (w.heap.size + 1) w' g' cap' bs') (hb : Below (w.heap.size + 1) wr w') : EncSt w C w' g' cap' bs' :=
  ⟨h.below.trans hb, ho⟩
theorem bytes_snoc {B g cap : Nat} {w : World} {bs : List UInt8} {x : Int} (h0 : 0 ≤ x) (h1 : x ≤ 255) (own : w.ownsRow B 5 1 (.slice (some ⟨g, 0, none⟩) (bs.length + 1) cap) (bs.length + 1) (bs.map byteV ++ [.int .u8 x])) : Bytes B w g cap (bs ++ [UInt8.ofNat x.toNat]) := by
  unfold Bytes
  have e : byteV (UInt8.ofNat x.toNat) = .int .u8 x := by simp [byteV]; omega
  rw [List.map_append, List.length_append, List.map_cons, e]
  exact own

theorem Bytes.cellsAdd {B g cap : Nat} {w : World} {bs : List UInt8} (h : Bytes B w g cap bs) : ∀ j (hj : j < bs.length), w.cell? ((⟨g, 0, none⟩ : Addr).add j) = some (.int .u8 (bs[j].toNat : Int)) := by
  intro j hj
  have : (⟨g, 0, none⟩ : Addr).add j = ⟨g, j, none⟩ := by unfold Addr.add; split <;> simp_all
  rw [this, h.cell hj]
  simp [List.getD, hj]
theorem EncSt.two {w wr : World} {C : Array Value} {g cap : Nat} {bs : List UInt8} (h : EncSt w C wr g cap bs) (n : Int) (hl : bs.length ≤ 1900000) (h1 : n ≤ 65535) :
    Calls Try.prog 103 #[.slice (some ⟨g, 0, none⟩) bs.length cap, .int .i64 n] wr fun e w' => ∃ g' cap' bs', Hid (bs' = bs ++ twoL n) ∧ bs'.length ≤ bs.length + 2 ∧ e = .returned (.slice (some ⟨g', 0, none⟩) bs'.length cap') ∧ EncSt w C w' g' cap' bs' := by
  refine (l3Two_ok g cap bs n wr h.own h.size hl h1).mono ?_
  rintro e w' ⟨g', cap', rfl, own, hb⟩
  exact ⟨g', cap', _, rfl, by simp [twoL_len], rfl, h.step own hb⟩
theorem EncSt.first (w : World) (C : Array Value) (n : Int) (h1 : n ≤ 65535) :
    Calls Try.prog 103 #[.slice (some ⟨w.heap.size + 1, 0, none⟩) 4 4, .int .i64 n] ((w.alloc (.cells C 48)).alloc (.cells #[.int .u8 88, .int .u8 68, .int .u8 70, .int .u8 49] 5 (4, 5))) fun e w' => ∃ g' cap' bs', Hid (bs' = [88, 68, 70, 49] ++ twoL n) ∧ bs'.length ≤ 6 ∧ e = .returned (.slice (some ⟨g', 0, none⟩) bs'.length cap') ∧ EncSt w C w' g' cap' bs' := by
  have hsz : (w.alloc (.cells C 48)).heap.size = w.heap.size + 1 := by simp
  refine (l3Two_first (B := w.heap.size + 1) (w.heap.size + 1) 4 [88, 68, 70, 49] n _ ?_ (by simp) (by simp) (by simp) h1).mono ?_
  · intro j u hu
    rw [← hsz, World.cell?_alloc_mark]
    rw [← hu]
    match j with
    | 0 => rfl
    | 1 => rfl
    | 2 => rfl
    | 3 => rfl
    | j + 4 => simp
  · rintro e w' ⟨g', cap', rfl, own, hb⟩
    exact ⟨g', cap', _, rfl, by simp [twoL_len], rfl, ((Below.refl _ _).alloc (by rw [hsz]; exact Nat.le_refl _) _).trans hb, own⟩

set_option maxRecDepth 100000 in
set_option maxHeartbeats 4000000 in
theorem l3Raw_ok {lo : Nat} (cv bv fv tv ev nv kv : Value) (d : TabD) (w : World) (hs : TabAt lo w cv bv fv tv ev nv kv d) (hf : TabFine d) :
    Calls Try.prog 73 #[.agg #[cv, .int .i64 d.width, bv, fv, tv, ev, nv, kv]] w fun e w' => e = .returned (.string ⟨(imageL d).toArray⟩) ∧ Below w.heap.size w w' := by
  obtain ⟨i0, hi, hz0, hz1, hz2⟩ := info_parts Try.infoByte
  have hn1 := hf.n1; have hn2 := hf.n2; have hw1 := hf.w1; have hw2 := hf.w2; have hnm := hf.nm
  obtain ⟨⟨a0, p0, rfl, m0, y0⟩, ⟨a1, p1, rfl, m1, y1⟩, ⟨a2, p2, rfl, m2, y2⟩, ⟨a3, p3, rfl, m3, y3⟩, ⟨a4, p4, rfl, m4, y4⟩, ⟨a5, p5, rfl, m5, y5⟩, ⟨a6, p6, rfl, m6, y6⟩⟩ := hs
  have hcv := Go.Joins.run_convert_bytes_const_at (P := Try.prog) (w.alloc (.cells #[.slice a0 d.classes.length p0, .int .i64 d.width, .slice a1 d.base.length p1, .slice a2 d.dflt.length p2, .slice a3 d.tag.length p3, .slice a4 d.fin.length p4, .slice a5 d.next.length p5, .slice a6 d.chk.length p6] 48)) 104 5 #[.int .u8 88, .int .u8 68, .int .u8 70, .int .u8 49] 4 4 (w.heap.size + 1) (by simp) Try.underlying104 Try.underlying5
  go_enter Try.func73, Try.ntmps73
  go_wp2_with fail
  clear hcv
  refine (EncSt.first w #[.slice a0 d.classes.length p0, .int .i64 d.width, .slice a1 d.base.length p1, .slice a2 d.dflt.length p2, .slice a3 d.tag.length p3, .slice a4 d.fin.length p4, .slice a5 d.next.length p5, .slice a6 d.chk.length p6] d.base.length (by omega)).mono ?_
  rintro e w1 ⟨g1, cap1, bs1, H1, hl1, rfl, E1⟩
  obtain ⟨x0, x1, x2, x3, x4, x5, x6, x7⟩ := row_eight E1.row
  go_wp2_with fail
  refine (E1.two d.width (by omega) (by omega)).mono ?_
  rintro e w2 ⟨g2, cap2, bs2, H2, hl2, rfl, E2⟩
  clear x0 x1 x2 x3 x4 x5 x6 x7
  obtain ⟨x0, x1, x2, x3, x4, x5, x6, x7⟩ := row_eight E2.row
  go_wp2_with fail
  refine (E2.two d.next.length (by omega) (by omega)).mono ?_
  rintro e w3 ⟨g3, cap3, bs3, H3, hl3, rfl, E3⟩
  clear x0 x1 x2 x3 x4 x5 x6 x7
  obtain ⟨x0, x1, x2, x3, x4, x5, x6, x7⟩ := row_eight E3.row
  have H0 : Hid (bs3 = clsL d 0) := by show _ = _; rw [H3.out, H2.out, H1.out, clsL_zero]; rfl
  clear H1 H2 H3 E1 E2
  go_wp2
  clear x0 x1 x2 x3 x4 x5 x6 x7
  go_loopw [3, 27] (fun out i wr => ∃ k : Nat, k ≤ d.classes.length ∧ i = .int .i64 k ∧ ∃ g cap bs, Hid (bs = clsL d k) ∧ out = .slice (some ⟨g, 0, none⟩) bs.length cap ∧ EncSt w #[.slice a0 d.classes.length p0, .int .i64 d.width, .slice a1 d.base.length p1, .slice a2 d.dflt.length p2, .slice a3 d.tag.length p3, .slice a4 d.fin.length p4, .slice a5 d.next.length p5, .slice a6 d.chk.length p6] wr g cap bs)
    (fun _ i _ => d.classes.length - (intOf i).toNat)
  case atStart => exact ⟨0, Nat.zero_le _, rfl, _, _, _, H0, rfl, E3⟩
  case round =>
    obtain ⟨k, hk, rfl, g, cap, bs, HB, rfl, E⟩ := hrel
    have hbl : bs.length ≤ 10 + k := by rw [HB.out, clsL_len]; omega
    by_cases hlt : k < d.classes.length
    · obtain ⟨b, o, x, rfl, Hn, hbl2, c0⟩ := y0.elem E.low hlt
      have hx := allIn_at hf.cs hlt
      rw [Hn.out] at hx
      have hk6 : k < 256 := by have := hf.cl; omega
      have HN : Hid (clsL d (k + 1) = clsL d k ++ [UInt8.ofNat x.toNat]) := by show _ = _; rw [clsL_succ]; unfold tclsAt; rw [Hn.out]
      have hg := (own_form E.own).1
      have hx1 : x ≤ 255 := by omega
      have hx0 : 0 ≤ x := hx.1
      clear hx Hn
      go_wp2_with (refine wpList_append_oneH wr wr.heap.size rfl rfl (.tmp 31) (.tmp 34) 104 rfl (w.heap.size + 1) 5 i0 _ 1 Try.underlying104 hi hz0 hz1 hz2 rfl g cap bs.length (bs.map byteV) _ rfl E.own rfl rfl (by omega) (by omega) E.size ?_; intro g' cap' w4 own4 grow4 at4)
      have EN := E.step (bytes_snoc hx0 hx1 own4) ((Below.refl _ _).grown grow4 E.size (by intro k h; cases h; exact hg))
      go_roundw
      case rel => exact ⟨k + 1, by omega, by go_num, g', cap', bs ++ [UInt8.ofNat x.toNat], by show _ = _; rw [HN.out, HB.out], by simp, EN⟩
      case measure => simp [intOf]; omega
    · have hk6 : k = 256 := by have := hf.cl; omega
      have HS : Hid (bs = statesL d 0) := by show _ = _; rw [HB.out, statesL_zero, hk6]
      clear HB hk6
      obtain ⟨x0, x1, x2, x3, x4, x5, x6, x7⟩ := row_eight E.row
      go_wp2
      clear x0 x1 x2 x3 x4 x5 x6 x7
      go_loopw [3, 40] (fun out i wr => ∃ k : Nat, k ≤ d.base.length ∧ i = .int .i64 k ∧ ∃ g cap bs, Hid (bs = statesL d k) ∧ out = .slice (some ⟨g, 0, none⟩) bs.length cap ∧ EncSt w #[.slice a0 d.classes.length p0, .int .i64 d.width, .slice a1 d.base.length p1, .slice a2 d.dflt.length p2, .slice a3 d.tag.length p3, .slice a4 d.fin.length p4, .slice a5 d.next.length p5, .slice a6 d.chk.length p6] wr g cap bs)
        (fun _ i _ => d.base.length - (intOf i).toNat)
      case atStart => exact ⟨0, Nat.zero_le _, rfl, _, _, _, HS, rfl, E⟩
      case round =>
        clear E HS hbl
        obtain ⟨k, hk, rfl, g, cap, bs, HB, rfl, E⟩ := hrel
        have hbl : bs.length ≤ 266 + 8 * k := by rw [HB.out, statesL_len]; omega
        by_cases hlt : k < d.base.length
        · have q1 := hf.dl; have q2 := hf.tl; have q3 := hf.el
          have j1 : k < d.dflt.length := by omega
          have j2 : k < d.tag.length := by omega
          have j3 : k < d.fin.length := by omega
          have j0' : (k : Int) < (d.base.length : Int) := by omega
          have j1' : (k : Int) < (d.dflt.length : Int) := by omega
          have j2' : (k : Int) < (d.tag.length : Int) := by omega
          have j3' : (k : Int) < (d.fin.length : Int) := by omega
          clear q1 q2 q3
          have b1 := (allIn_at hf.bs hlt).2; have b2 := (allIn_at hf.ds j1).2; have b3 := (allIn_at hf.ts j2).2; have b4 := (allIn_at hf.es j3).2
          have HN : Hid _ := statesL_succ d k
          obtain ⟨b0, o0, v0, rfl, N0, _, c0⟩ := y1.elem E.low hlt
          obtain ⟨x0, x1, x2, x3, x4, x5, x6, x7⟩ := row_eight E.row
          go_wp2_with fail
          refine (E.two v0 (by omega) (by rw [N0.out] at b1; omega)).mono ?_
          rintro e w5 ⟨g5, cap5, bs5, H5, hl5, rfl, E5⟩
          clear x0 x1 x2 x3 x4 x5 x6 x7 c0
          obtain ⟨x0, x1, x2, x3, x4, x5, x6, x7⟩ := row_eight E5.row
          obtain ⟨f0, fo, v1, rfl, N1, _, c0⟩ := y2.elem E5.low j1
          go_wp2_with fail
          refine (E5.two v1 (by omega) (by rw [N1.out] at b2; omega)).mono ?_
          rintro e w6 ⟨g6, cap6, bs6, H6, hl6, rfl, E6⟩
          clear x0 x1 x2 x3 x4 x5 x6 x7 c0
          obtain ⟨x0, x1, x2, x3, x4, x5, x6, x7⟩ := row_eight E6.row
          obtain ⟨t0, to, v2, rfl, N2, _, c0⟩ := y3.elem E6.low j2
          go_wp2_with fail
          refine (E6.two v2 (by omega) (by rw [N2.out] at b3; omega)).mono ?_
          rintro e w7 ⟨g7, cap7, bs7, H7, hl7, rfl, E7⟩
          clear x0 x1 x2 x3 x4 x5 x6 x7 c0
          obtain ⟨x0, x1, x2, x3, x4, x5, x6, x7⟩ := row_eight E7.row
          obtain ⟨e0, eo, v3, rfl, N3, _, c0⟩ := y4.elem E7.low j3
          go_wp2_with fail
          refine (E7.two v3 (by omega) (by rw [N3.out] at b4; omega)).mono ?_
          rintro e w8 ⟨g8, cap8, bs8, H8, hl8, rfl, E8⟩
          go_wp2
          go_roundw
          case rel => exact ⟨k + 1, by omega, by go_num, g8, cap8, bs8, by show _ = _; rw [HN.out, H8.out, H7.out, H6.out, H5.out, HB.out]; unfold baseAt dfltAt ttagAt tendAt; rw [N0.out, N1.out, N2.out, N3.out], by simp, E8⟩
          case measure => simp [intOf]; omega
        · have hkk : k = d.base.length := by omega
          have HT : Hid (bs = slotsL d 0) := by show _ = _; rw [HB.out, slotsL_zero, hkk]
          clear HB
          obtain ⟨x0, x1, x2, x3, x4, x5, x6, x7⟩ := row_eight E.row
          have hbl2 : bs.length ≤ 266 + 8 * d.base.length := by omega
          clear hkk
          go_wp2
          clear x0 x1 x2 x3 x4 x5 x6 x7
          go_loopw [3, 75] (fun out i wr => ∃ k : Nat, k ≤ d.next.length ∧ i = .int .i64 k ∧ ∃ g cap bs, Hid (bs = slotsL d k) ∧ out = .slice (some ⟨g, 0, none⟩) bs.length cap ∧ EncSt w #[.slice a0 d.classes.length p0, .int .i64 d.width, .slice a1 d.base.length p1, .slice a2 d.dflt.length p2, .slice a3 d.tag.length p3, .slice a4 d.fin.length p4, .slice a5 d.next.length p5, .slice a6 d.chk.length p6] wr g cap bs)
            (fun _ i _ => d.next.length - (intOf i).toNat)
          case atStart => exact ⟨0, Nat.zero_le _, rfl, _, _, _, HT, rfl, E⟩
          case round =>
            clear E HT hbl hbl2
            obtain ⟨k, hk, rfl, g, cap, bs, HB, rfl, E⟩ := hrel
            have hbl : bs.length ≤ 266 + 8 * d.base.length + 4 * k := by rw [HB.out, slotsL_len]; omega
            by_cases hlt : k < d.next.length
            · have q1 := hf.nk
              have j1 : k < d.chk.length := by omega
              have j0' : (k : Int) < (d.next.length : Int) := by omega
              have j1' : (k : Int) < (d.chk.length : Int) := by omega
              clear q1
              have b1 := (allIn_at hf.ns hlt).2; have b2 := (allIn_at hf.ks j1).2
              have HN : Hid _ := slotsL_succ d k
              obtain ⟨b0, o0, v0, rfl, N0, _, c0⟩ := y5.elem E.low hlt
              obtain ⟨x0, x1, x2, x3, x4, x5, x6, x7⟩ := row_eight E.row
              go_wp2_with fail
              refine (E.two v0 (by omega) (by rw [N0.out] at b1; omega)).mono ?_
              rintro e w5 ⟨g5, cap5, bs5, H5, hl5, rfl, E5⟩
              clear x0 x1 x2 x3 x4 x5 x6 x7 c0
              obtain ⟨x0, x1, x2, x3, x4, x5, x6, x7⟩ := row_eight E5.row
              obtain ⟨f0, fo, v1, rfl, N1, _, c0⟩ := y6.elem E5.low j1
              go_wp2_with fail
              refine (E5.two v1 (by omega) (by rw [N1.out] at b2; omega)).mono ?_
              rintro e w6 ⟨g6, cap6, bs6, H6, hl6, rfl, E6⟩
              go_wp2
              go_roundw
              case rel => exact ⟨k + 1, by omega, by go_num, g6, cap6, bs6, by show _ = _; rw [HN.out, H6.out, H5.out, HB.out]; unfold tnextAt chkAt; rw [N0.out, N1.out], by simp, E6⟩
              case measure => simp [intOf]; omega
            · have hkk : k = d.next.length := by omega
              have HR : Hid (bs = rawL d) := by show _ = _; rw [HB.out, hkk]; rfl
              have hbl2 : bs.length ≤ 300000 := by omega
              clear HB hkk
              have hsum := sumF_lt bs
              go_wp2_with fail
              refine (l3Sum_ok g cap bs _ E.own (by omega)).mono ?_
              rintro e w5 ⟨rfl, rfl⟩
              go_wp2_with fail
              refine (E.two (sumF bs) (by omega) (by omega)).mono ?_
              rintro e w6 ⟨g6, cap6, bs6, H6, hl6, rfl, E6⟩
              have hcv := run_convert_bytes_back (P := Try.prog) w6 104 9 5 ⟨g6, 0, none⟩ cap6 bs6 Try.underlying104 Try.underlying5 Try.underlying9 E6.own.cellsAdd
              go_wp2
              go_ret
              exact ⟨ret_str (by rw [H6.out, HR.out]; rfl), E6.low⟩
end Go.Proofs.Ytplhghhfdabccaa
