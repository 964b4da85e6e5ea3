import Derived.Test.YtplhghhfdabccaaCur
import Derived.Test.YtplhghhfdabccaaTabI
import Derived.Test.YtplhghhfdabccaaEncR
import Derived.Test.YtplhghhfdabccaaStep
namespace Go.Proofs.Ytplhghhfdabccaa
open Go.RowKit
attribute [local go_sem ↓] Go.wp_at_zero Go.wp_at_succ

theorem enterPut (args : Array Value) (w : World) : (callFunc 104 args).run Try.prog w = .ok (.enter 104 args) w := by kernel_rfl
theorem enterNumbers (args : Array Value) (w : World) : (callFunc 76 args).run Try.prog w = .ok (.enter 76 args) w := by kernel_rfl
theorem Wr.lt {p g N : Nat} {bs : List UInt8} {w : World} (h : Wr p g N bs w) : p < w.heap.size ∧ g < w.heap.size := ⟨row_lt h.2.cur, row_lt h.2.row⟩
theorem Wr.below {p g N : Nat} {bs : List UInt8} {w w' : World} (h : Wr p g N bs w) (hb : Below w.heap.size w w') : Wr p g N bs w' := h.keep (S := fun _ => False) (.of_below hb) (fun k => k) (fun k => k)
/-- Numbers that stand in a new block. -/
theorem Wr.nums {p g N : Nat} {bs : List UInt8} {w : World} (h : Wr p g N bs w) (hN : N ≤ 1900000) (wx : World) (hk : Below w.heap.size w wx) (ns : List Int) (t : TypeId) (hb : wx.heap[w.heap.size]? = some (.cells (ns.map fun n => .int .i64 n).toArray t (0, 0)))
    (hr : ∀ n ∈ ns, -1 ≤ n ∧ n ≤ 65535) (hl : bs.length + 2 * ns.length ≤ N) (n cap : Nat) (hn : n = ns.length) :
    Calls Try.prog 76 #[.pointer (some ⟨p, 0, none⟩), .slice (some ⟨w.heap.size, 0, none⟩) n cap] wx fun e w' => e = .returned (.tuple #[]) ∧ (Wr p g N (bs ++ numsL ns) w' ∧ Kept (fun b => b = p ∨ b = g) w w') := by
  subst hn
  have hlt := h.lt
  have hs : IntsAt w.heap.size wx (.slice (some ⟨w.heap.size, 0, none⟩) ns.length cap) ns := by
    refine ⟨_, _, rfl, by omega, fun _ => ⟨w.heap.size, 0, rfl, Nat.le_refl _, row_lt hb, fun i hi => ?_⟩⟩
    rw [Nat.zero_add, cell_of_row _ _ _ _ _ _ hb]
    simp [List.getD, hi]
  refine (numbers_ok p g N bs _ ns wx (h.below hk) hN hs hlt.1 hlt.2 hr hl).mono ?_
  rintro e w' ⟨rfl, W, K⟩
  exact ⟨rfl, W, (Kept.of_below hk).trans K⟩

theorem magic_byte {k : Nat} (h : k < 4) : (([88, 68, 70, 49] : List UInt8).take k) ++ [([88, 68, 70, 49] : List UInt8).getD k 0] = ([88, 68, 70, 49] : List UInt8).take (k + 1) := by
  match k, h with
  | 0, _ => rfl
  | 1, _ => rfl
  | 2, _ => rfl
  | 3, _ => rfl

theorem magic_at {k : Nat} (h : k < 4) (hk : k < (⟨#[88, 68, 70, 49]⟩ : ByteArray).size) : (((⟨#[88, 68, 70, 49]⟩ : ByteArray)[k]'hk).toNat : Int) = ((([88, 68, 70, 49] : List UInt8).getD k 0).toNat : Int) := by
  match k, h with
  | 0, _ => rfl
  | 1, _ => rfl
  | 2, _ => rfl
  | 3, _ => rfl
/-- Writing the image of a table that lies in w0. -/
structure EncW (w0 : World) (p g N : Nat) (bs : List UInt8) (w : World) : Prop where
  wr : Wr p g N bs w
  below : Below w0.heap.size w0 w
  hp : w0.heap.size ≤ p
  hg : w0.heap.size ≤ g
theorem EncW.step {w0 w w' : World} {p g N : Nat} {bs cs : List UInt8} (h : EncW w0 p g N bs w) (hw : Wr p g N cs w') (hk : Kept (fun b => b = p ∨ b = g) w w') : EncW w0 p g N cs w' :=
  ⟨hw, h.below.trans (hk.below h.below.size (fun _ hk => hk.elim (fun e => e ▸ h.hp) (fun e => e ▸ h.hg))), h.hp, h.hg⟩
theorem EncW.grow {w0 w w' : World} {p g N : Nat} {bs : List UInt8} (h : EncW w0 p g N bs w) (hb : Below w.heap.size w w') : EncW w0 p g N bs w' :=
  ⟨h.wr.below hb, below_step h.below h.below.size hb, h.hp, h.hg⟩

set_option maxRecDepth 100000 in
set_option maxHeartbeats 1000000 in
theorem head_ok {lo : Nat} (p g N : Nat) (cv bv fv tv ev nv kv : Value) (d : TabD) (w0 w : World) (hs : TabAt lo w0 cv bv fv tv ev nv kv d) (hf : TabFine d) (h : EncW w0 p g N [] w) (hN : N ≤ 1900000) (hN2 : 268 ≤ N) :
    Calls Try.prog 75 #[.pointer (some ⟨p, 0, none⟩), .agg #[cv, .int .i64 d.width, bv, fv, tv, ev, nv, kv]] w fun e w' => e = .returned (.tuple #[]) ∧ EncW w0 p g N (clsL d 256) w' ∧ Kept (fun b => b = p ∨ b = g) w w' := by
  have hn1 := hf.n1; have hn2 := hf.n2; have hw1 := hf.w1; have hw2 := hf.w2; have hnm := hf.nm
  obtain ⟨⟨a0, p0, rfl, m0, y0⟩, ⟨a1, p1, rfl, m1, y1⟩, ⟨a2, p2, rfl, m2, y2⟩, ⟨a3, p3, rfl, m3, y3⟩, ⟨a4, p4, rfl, m4, y4⟩, ⟨a5, p5, rfl, m5, y5⟩, ⟨a6, p6, rfl, m6, y6⟩⟩ := hs
  clear y1 y2 y3 y4 y5 y6
  have E0 := h.grow ((Below.refl _ _).alloc (Nat.le_refl _) (.cells #[.slice a0 d.classes.length p0, .int .i64 d.width, .slice a1 d.base.length p1, .slice a2 d.dflt.length p2, .slice a3 d.tag.length p3, .slice a4 d.fin.length p4, .slice a5 d.next.length p5, .slice a6 d.chk.length p6] 48))
  have K0 : Kept (fun b => b = p ∨ b = g) w (w.alloc (.cells #[.slice a0 d.classes.length p0, .int .i64 d.width, .slice a1 d.base.length p1, .slice a2 d.dflt.length p2, .slice a3 d.tag.length p3, .slice a4 d.fin.length p4, .slice a5 d.next.length p5, .slice a6 d.chk.length p6] 48)) := (Kept.refl _ _).alloc _
  have R0 := heap_alloc_new w (.cells #[.slice a0 d.classes.length p0, .int .i64 d.width, .slice a1 d.base.length p1, .slice a2 d.dflt.length p2, .slice a3 d.tag.length p3, .slice a4 d.fin.length p4, .slice a5 d.next.length p5, .slice a6 d.chk.length p6] 48)
  have hlt := h.wr.lt
  have hpn : ¬(w.heap.size = p ∨ w.heap.size = g) := by omega
  go_enter Try.func75, Try.ntmps75
  go_wp2
  go_loopw [7] (fun i wr => ∃ k : Nat, k ≤ 4 ∧ i = .int .i64 k ∧ EncW w0 p g N (([88, 68, 70, 49] : List UInt8).take k) wr ∧ Kept (fun b => b = p ∨ b = g) w wr ∧ wr.heap[w.heap.size]? = some (.cells #[.slice a0 d.classes.length p0, .int .i64 d.width, .slice a1 d.base.length p1, .slice a2 d.dflt.length p2, .slice a3 d.tag.length p3, .slice a4 d.fin.length p4, .slice a5 d.next.length p5, .slice a6 d.chk.length p6] 48 (0, 0)))
    (fun i _ => 4 - (intOf i).toNat)
  case atStart => exact ⟨0, by omega, rfl, E0, K0, R0⟩
  case round =>
    clear E0 K0 R0
    obtain ⟨k, hk, rfl, E, K, R⟩ := hrel
    by_cases hlt4 : k < 4
    · have hlen : (([88, 68, 70, 49] : List UInt8).take k).length < N := by simp; omega
      have HM := magic_byte hlt4
      have step : ∀ (x : Int), x = ((([88, 68, 70, 49] : List UInt8).getD k 0).toNat : Int) → ∀ wx, (wx = wr ∨ wx = wr.drew) → Calls Try.prog 104 #[.pointer (some ⟨p, 0, none⟩), .int .u8 x] wx fun e w' => e = .returned (.tuple #[]) ∧ (EncW w0 p g N (([88, 68, 70, 49] : List UInt8).take (k + 1)) w' ∧ Kept (fun b => b = p ∨ b = g) w w' ∧ w'.heap[w.heap.size]? = some (.cells #[.slice a0 d.classes.length p0, .int .i64 d.width, .slice a1 d.base.length p1, .slice a2 d.dflt.length p2, .slice a3 d.tag.length p3, .slice a4 d.fin.length p4, .slice a5 d.next.length p5, .slice a6 d.chk.length p6] 48 (0, 0))) := by
        intro x hx wx hwx
        have hb : Below wr.heap.size wr wx := hwx.elim (fun e => e ▸ Below.refl _ _) (fun e => e ▸ (Below.refl _ _).drew)
        refine ((E.wr.below hb).put hN _ x hx hlen).mono ?_
        rintro e w1 ⟨rfl, W1, K1⟩
        rw [HM] at W1
        exact ⟨rfl, (E.grow hb).step W1 K1, (K.trans (.of_below hb)).trans K1, K1.row (row_below R hb) hpn⟩
      have hi0 : (0 : Int) ≤ (k : Int) := by omega
      have hi1 : (k : Int) < 4 := by omega
      go_wp2
      go_region_law ((refine step_go2 (by rfl) 104 (.tmp 12) (.tmp 14) #[107, 5] (by rfl) (.pointer (some ⟨p, 0, none⟩)) (.int .u8 _) (by rfl) (by rfl) (.tuple #[]) _ (enterPut _ _) (step _ (magic_at hlt4 _) _ (by simp)) ?_; rintro w1 ⟨E1, K1, R1⟩))
      all_goals
        go_wp2
        go_roundw
        case rel => exact ⟨k + 1, by omega, by go_num, E1, K1, R1⟩
        case measure => simp [intOf]; omega
    · obtain ⟨x0, x1, x2, x3, x4, x5, x6, x7⟩ := row_eight R
      have hk4 : k = 4 := by omega
      have hr : ∀ n ∈ [(d.base.length : Int), d.width, (d.next.length : Int)], -1 ≤ n ∧ n ≤ 65535 := by
        intro n hn
        simp only [List.mem_cons, List.not_mem_nil, or_false] at hn
        omega
      have hE : EncW w0 p g N [88, 68, 70, 49] wr := by rw [hk4] at E; exact E
      clear E hk4
      have HN := fun wx hk hb => hE.wr.nums hN wx hk [(d.base.length : Int), d.width, (d.next.length : Int)] 3 hb hr (by simp; omega) 3 3 rfl
      go_wp2_with fail
      refine (HN _ ((Below.refl _ _).alloc (Nat.le_refl _) _) (heap_alloc_new _ _)).mono ?_
      rintro e w2 ⟨rfl, W2, K2⟩
      have E2 : EncW w0 p g N (clsL d 0) w2 := by
        have := hE.step W2 K2
        rw [clsL_zero]
        exact this
      have R2 := K2.row R hpn
      have K3 := K.trans K2
      clear x0 x1 x2 x3 x4 x5 x6 x7 HN hE W2 K2 R K hr
      obtain ⟨x0, x1, x2, x3, x4, x5, x6, x7⟩ := row_eight R2
      go_wp2
      clear x0 x1 x2 x3 x4 x5 x6 x7 R2
      go_loopw [31] (fun i wr => ∃ k : Nat, k ≤ d.classes.length ∧ i = .int .i64 k ∧ EncW w0 p g N (clsL d k) wr ∧ Kept (fun b => b = p ∨ b = g) w wr)
        (fun i _ => d.classes.length - (intOf i).toNat)
      case atStart => exact ⟨0, by omega, rfl, E2, K3⟩
      case round =>
        clear E2 K3
        obtain ⟨k, hk, rfl, E, K⟩ := hrel
        by_cases hltc : k < d.classes.length
        · obtain ⟨b, o, x, rfl, Hn, hbl2, c0⟩ := y0.elem E.below hltc
          have hx := allIn_at hf.cs hltc
          rw [Hn.out] at hx
          have hlc : (clsL d k).length < N := by rw [clsL_len]; have := hf.cl; omega
          have HN : Hid (clsL d (k + 1) = clsL d k ++ [UInt8.ofNat x.toNat]) := by show _ = _; rw [clsL_succ]; unfold tclsAt; rw [Hn.out]
          have hx1 : x ≤ 255 := by omega
          have hx0 : 0 ≤ x := hx.1
          clear hx Hn
          go_wp2_with fail
          refine (E.wr.put hN (UInt8.ofNat x.toNat) _ (by simp; omega) hlc).mono ?_
          rintro e w3 ⟨rfl, W3, K3⟩
          rw [← HN.out] at W3
          go_wp2
          go_roundw
          case rel => exact ⟨k + 1, by omega, by go_num, E.step W3 K3, K.trans K3⟩
          case measure => simp [intOf]; omega
        · have hk6 : k = 256 := by have := hf.cl; omega
          rw [hk6] at E
          go_wp2
          go_end0
          exact ⟨rfl, E, K⟩

set_option maxHeartbeats 400000 in
theorem imageSize_ok (a b : Int) (w : World) (ha : 0 ≤ a) (ha2 : a ≤ 70000) (hb : 0 ≤ b) (hb2 : b ≤ 70000) :
    Calls Try.prog 74 #[.int .i64 a, .int .i64 b] w fun e w' => e = .returned (.int .i64 (268 + 8 * a + 4 * b)) ∧ w' = w := by
  go_enter Try.func74, Try.ntmps74
  go_wp2
  go_ret
  exact ⟨rfl, rfl⟩
theorem made_bytes (N : Nat) : (madeCells (Value.int .u8 0).cells (N * 1)).toList = List.replicate N (.int .u8 0) := by
  apply List.ext_getElem
  · simp [madeCells]
  · intro i h1 h2
    simp [madeCells, Value.cells, Nat.mod_one]
/-- A new writer. -/
theorem Wr.new {w1 w2 W : World} {N p : Nat} (own : w2.ownsRow w1.heap.size 5 1 (.slice (some ⟨w1.heap.size, 0, none⟩) N N) N (madeCells (Value.int .u8 0).cells (N * 1)).toList)
    (hW : W.heap[w1.heap.size]? = w2.heap[w1.heap.size]?) (hp : w1.heap.size ≠ p) (cur : W.heap[p]? = some (.cells #[.slice (some ⟨w1.heap.size, 0, none⟩) N N, .int .i64 0, .int .u16 0] 109 (0, 0))) : Wr p w1.heap.size N [] W := by
  refine ⟨by simp, hp, ?_, ?_⟩
  · rw [padL_len (by simp)]; exact cur
  · rw [hW]
    rcases own.2 with ⟨h, _⟩ | ⟨g, cap, cr, h, _, hrow, _, _, hsz, htk⟩
    · cases h
    · cases h
      rw [hrow]
      congr 2
      rw [Array.append_empty]
      apply Array.ext'
      rw [List.take_of_length_le (by simp [hsz])] at htk
      rw [htk, made_bytes]
      simp [padL, byteV]

set_option maxRecDepth 100000 in
set_option maxHeartbeats 2000000 in
theorem implEncode_t {lo : Nat} (cv bv fv tv ev nv kv : Value) (d : TabD) (w : World) (hs : TabAt lo w cv bv fv tv ev nv kv d) (hsm : TabSmall d) (hB : tabB d = true) :
    Calls Try.prog 34 #[.agg #[cv, .int .i64 d.width, bv, fv, tv, ev, nv, kv]] w fun e w' => e = .returned (.string (encF d)) ∧ Below w.heap.size w w' := by
  obtain ⟨i0, hi, hz0, hz1, hz2⟩ := info_parts Try.infoByte
  have hf := tabB_fine hB
  have HE : Hid (encF d = ⟨(imageL d).toArray⟩) := by show _ = _; simp [encF, hB]
  have hn1 := hf.n1; have hn2 := hf.n2; have hnm := hf.nm
  have hT := fun wx hb => implTableOK_ok cv bv fv tv ev nv kv d wx (hs.below hb) hsm
  rw [hB] at hT
  obtain ⟨⟨a0, p0, rfl, m0, y0⟩, ⟨a1, p1, rfl, m1, y1⟩, ⟨a2, p2, rfl, m2, y2⟩, ⟨a3, p3, rfl, m3, y3⟩, ⟨a4, p4, rfl, m4, y4⟩, ⟨a5, p5, rfl, m5, y5⟩, ⟨a6, p6, rfl, m6, y6⟩⟩ := id hs
  have hb0 : Below w.heap.size w (w.alloc (.cells #[.slice a0 d.classes.length p0, .int .i64 d.width, .slice a1 d.base.length p1, .slice a2 d.dflt.length p2, .slice a3 d.tag.length p3, .slice a4 d.fin.length p4, .slice a5 d.next.length p5, .slice a6 d.chk.length p6] 48)) := (Below.refl _ _).alloc (Nat.le_refl _) _
  have r0 := heap_alloc_new w (.cells #[.slice a0 d.classes.length p0, .int .i64 d.width, .slice a1 d.base.length p1, .slice a2 d.dflt.length p2, .slice a3 d.tag.length p3, .slice a4 d.fin.length p4, .slice a5 d.next.length p5, .slice a6 d.chk.length p6] 48)
  go_enter Try.func34, Try.ntmps34
  go_wp2_with fail
  refine (hT _ hb0).mono ?_
  rintro e w1 ⟨rfl, hb1⟩
  clear hT
  have r1 := row_below r0 hb1
  have hb2 := below_step hb0 hb0.size hb1
  clear r0 hb1 hb0
  obtain ⟨x0, x1, x2, x3, x4, x5, x6, x7⟩ := row_eight r1
  go_wp2_with fail
  refine (imageSize_ok d.base.length d.next.length _ (by omega) (by omega) (by omega) (by omega)).mono ?_
  rintro e w3 ⟨rfl, rfl⟩
  have hsz3 : w.heap.size < w3.heap.size := row_lt r1
  clear x0 x1 x2 x3 x4 x5 x6 x7
  obtain ⟨x0, x1, x2, x3, x4, x5, x6, x7⟩ := row_eight r1
  go_wp2_with (refine wpList_make_full _ rfl _ _ 104 rfl w3.heap.size 5 i0 _ 1 Try.underlying104 hi hz0 hz1 _ _ _ _ (268 + 8 * d.base.length + 4 * d.next.length) rfl rfl (by simp) (by simp) (by rw [hz2]; omega) (by unfold maxLen; omega) (Nat.le_refl _) ?_; intro w2 hown hgrow; have hbg : Below w3.heap.size w3 w2 := (Below.refl _ _).grown hgrow (Nat.le_refl _) (by intro k h; cases h); have r2 := row_below r1 hbg; have hsz2 : w.heap.size < w2.heap.size := row_lt r2; clear x0 x1 x2 x3 x4 x5 x6 x7 hgrow; obtain ⟨x0, x1, x2, x3, x4, x5, x6, x7⟩ := row_eight r2)
  have hg2 : w3.heap.size < w2.heap.size := own_lt hown
  have E0 : EncW w w2.heap.size w3.heap.size (268 + 8 * d.base.length + 4 * d.next.length) [] (w2.alloc (.cells #[.slice (some ⟨w3.heap.size, 0, none⟩) (268 + 8 * d.base.length + 4 * d.next.length) (268 + 8 * d.base.length + 4 * d.next.length), .int .i64 0, .int .u16 0] 109)) :=
    ⟨Wr.new hown (Below.heap_alloc _ _ _ hg2) (by omega) (heap_alloc_new _ _), (below_step hb2 hb2.size hbg).alloc (by omega) _, by omega, by omega⟩
  have R0 : (w2.alloc (.cells #[.slice (some ⟨w3.heap.size, 0, none⟩) (268 + 8 * d.base.length + 4 * d.next.length) (268 + 8 * d.base.length + 4 * d.next.length), .int .i64 0, .int .u16 0] 109)).heap[w.heap.size]? = some (.cells #[.slice a0 d.classes.length p0, .int .i64 d.width, .slice a1 d.base.length p1, .slice a2 d.dflt.length p2, .slice a3 d.tag.length p3, .slice a4 d.fin.length p4, .slice a5 d.next.length p5, .slice a6 d.chk.length p6] 48 (0, 0)) := row_alloc r2
  have hne : ¬(w.heap.size = w2.heap.size ∨ w.heap.size = w3.heap.size) := by omega
  refine (head_ok _ _ _ _ _ _ _ _ _ _ d w _ hs hf E0 (by omega) (by omega)).mono ?_
  rintro e w4 ⟨rfl, E1, K1⟩
  have R1 := K1.row R0 hne
  clear x0 x1 x2 x3 x4 x5 x6 x7 E0 R0 K1 hown hbg hg2 r2 r1 hb2
  have hpl : w.heap.size + 1 ≤ w2.heap.size := by omega
  have hgl : w.heap.size + 1 ≤ w3.heap.size := by omega
  clear hsz2 hsz3
  generalize hpp : w2.heap.size = p at *
  generalize hgg : w3.heap.size = g at *
  clear hpp hgg
  generalize HNN : 268 + 8 * d.base.length + 4 * d.next.length = N at *
  have HN : Hid (268 + 8 * d.base.length + 4 * d.next.length = N) := HNN
  have hNl : N ≤ 1900000 := by omega
  clear HNN
  obtain ⟨x0, x1, x2, x3, x4, x5, x6, x7⟩ := row_eight R1
  have E1' : EncW w p g N (statesL d 0) w4 := by rw [statesL_zero]; exact E1
  clear E1
  go_wp2
  clear x0 x1 x2 x3 x4 x5 x6 x7
  go_loopw [24] (fun i wr => ∃ k : Nat, k ≤ d.base.length ∧ i = .int .i64 k ∧ EncW w p g N (statesL d k) wr ∧ wr.heap[w.heap.size]? = some (.cells #[.slice a0 d.classes.length p0, .int .i64 d.width, .slice a1 d.base.length p1, .slice a2 d.dflt.length p2, .slice a3 d.tag.length p3, .slice a4 d.fin.length p4, .slice a5 d.next.length p5, .slice a6 d.chk.length p6] 48 (0, 0)))
    (fun i _ => d.base.length - (intOf i).toNat)
  case atStart => exact ⟨0, by omega, rfl, E1', R1⟩
  case round =>
    clear E1' R1
    obtain ⟨k, hk, rfl, E, R⟩ := hrel
    obtain ⟨x0, x1, x2, x3, x4, x5, x6, x7⟩ := row_eight R
    by_cases hlt : k < d.base.length
    · have q1 := hf.dl; have q2 := hf.tl; have q3 := hf.el
      have j1 : k < d.dflt.length := by omega
      have j2 : k < d.tag.length := by omega
      have j3 : k < d.fin.length := by omega
      have jz : (0 : Int) ≤ (k : Int) := by omega
      have j0' : (k : Int) < (d.base.length : Int) := by omega
      have j1' : (k : Int) < (d.dflt.length : Int) := by omega
      have j2' : (k : Int) < (d.tag.length : Int) := by omega
      have j3' : (k : Int) < (d.fin.length : Int) := by omega
      clear q1 q2 q3
      have b1 := allIn_at hf.bs hlt; have b2 := allIn_at hf.ds j1; have b3 := allIn_at hf.ts j2; have b4 := allIn_at hf.es j3
      have HS : Hid _ := statesL_succ d k
      have hlen : (statesL d k).length + 8 ≤ N := by rw [statesL_len]; have := HN.out; omega
      obtain ⟨b0, o0, v0, rfl, N0, g0, c0⟩ := y1.elem E.below hlt
      obtain ⟨f0, fo, v1, rfl, N1, g1, c1⟩ := y2.elem E.below j1
      obtain ⟨t0, tq, v2, rfl, N2, g2, c2⟩ := y3.elem E.below j2
      obtain ⟨e0, eo, v3, rfl, N3, g3, c3⟩ := y4.elem E.below j3
      rw [N0.out] at b1; rw [N1.out] at b2; rw [N2.out] at b3; rw [N3.out] at b4
      have hr : ∀ n ∈ [v0, v1, v2, v3], -1 ≤ n ∧ n ≤ 65535 := by
        intro n hn
        simp only [List.mem_cons, List.not_mem_nil, or_false] at hn
        omega
      have HC := fun wx hk hb => E.wr.nums hNl wx hk [v0, v1, v2, v3] 3 hb hr (by simp; omega) 4 4 rfl
      clear b1 b2 b3 b4 hr
      have HB5 : Hid (∀ wx, Kept (fun b => b = p ∨ b = g) wr wx → Below (w.heap.size + 1) wr wx) := fun wx hk => hk.below (row_lt R) (fun _ hk => hk.elim (fun e => e ▸ hpl) (fun e => e ▸ hgl))
      have HH : Hid (∀ wx, Below (w.heap.size + 1) wr wx → wx.cell? ⟨w.heap.size, 2, none⟩ = some (.slice (some ⟨b0, o0, none⟩) d.base.length p1) ∧ wx.cell? ⟨w.heap.size, 3, none⟩ = some (.slice (some ⟨f0, fo, none⟩) d.dflt.length p2) ∧ wx.cell? ⟨w.heap.size, 4, none⟩ = some (.slice (some ⟨t0, tq, none⟩) d.tag.length p3) ∧ wx.cell? ⟨w.heap.size, 5, none⟩ = some (.slice (some ⟨e0, eo, none⟩) d.fin.length p4) ∧ wx.cell? ⟨b0, o0 + k, none⟩ = some (.int .i64 v0) ∧ wx.cell? ⟨f0, fo + k, none⟩ = some (.int .i64 v1) ∧ wx.cell? ⟨t0, tq + k, none⟩ = some (.int .i64 v2) ∧ wx.cell? ⟨e0, eo + k, none⟩ = some (.int .i64 v3)) :=
        fun wx hb => ⟨(hb.cell (by simp)).trans x2, (hb.cell (by simp)).trans x3, (hb.cell (by simp)).trans x4, (hb.cell (by simp)).trans x5, (hb.cell (by simp; omega)).trans c0, (hb.cell (by simp; omega)).trans c1, (hb.cell (by simp; omega)).trans c2, (hb.cell (by simp; omega)).trans c3⟩
      have hszr : w.heap.size + 1 ≤ wr.heap.size := row_lt R
      go_wp2
      go_region_held3 (fun wx => wx.cell? ⟨w.heap.size, 2, none⟩ = some (.slice (some ⟨b0, o0, none⟩) d.base.length p1) ∧ wx.cell? ⟨w.heap.size, 3, none⟩ = some (.slice (some ⟨f0, fo, none⟩) d.dflt.length p2) ∧ wx.cell? ⟨w.heap.size, 4, none⟩ = some (.slice (some ⟨t0, tq, none⟩) d.tag.length p3) ∧ wx.cell? ⟨w.heap.size, 5, none⟩ = some (.slice (some ⟨e0, eo, none⟩) d.fin.length p4) ∧ wx.cell? ⟨b0, o0 + k, none⟩ = some (.int .i64 v0) ∧ wx.cell? ⟨f0, fo + k, none⟩ = some (.int .i64 v1) ∧ wx.cell? ⟨t0, tq + k, none⟩ = some (.int .i64 v2) ∧ wx.cell? ⟨e0, eo + k, none⟩ = some (.int .i64 v3)) ((first | exact HH.out _ (Below.refl _ _) | exact HH.out _ (Below.refl _ _).drew | exact HH.out _ ((Below.refl _ _).drew.alloc hszr _) | exact HH.out _ (((Below.refl _ _).alloc hszr _).drew) | exact HH.out _ hb5)) ((go_at_call 76; refine (HC _ (by first | exact ((Below.refl _ _).drew.alloc (Nat.le_refl _) _) | exact ((Below.refl _ _).alloc (Nat.le_refl _) _).drew) (by first | exact heap_alloc_new _ _ | exact row_drew (heap_alloc_new _ _))).mono ?_; rintro e w5 ⟨rfl, W5, K5⟩; have hb5 := HB5.out _ K5))
      all_goals
        have R5 := K5.row R hne
        have E5 : EncW w p g N (statesL d (k + 1)) w5 := by
          have := E.step W5 K5
          rw [HS.out]
          unfold baseAt dfltAt ttagAt tendAt
          rw [N0.out, N1.out, N2.out, N3.out]
          simpa [numsL] using this
        go_wp2
        go_roundw
        case rel => exact ⟨k + 1, by omega, by go_num, E5, R5⟩
        case measure => simp [intOf]; omega
    · have hkk : k = d.base.length := by omega
      have E' : EncW w p g N (slotsL d 0) wr := by rw [slotsL_zero, ← hkk]; exact E
      clear E hkk
      go_wp2
      clear x0 x1 x2 x3 x4 x5 x6 x7
      go_loopw [53] (fun i wr => ∃ k : Nat, k ≤ d.next.length ∧ i = .int .i64 k ∧ EncW w p g N (slotsL d k) wr ∧ wr.heap[w.heap.size]? = some (.cells #[.slice a0 d.classes.length p0, .int .i64 d.width, .slice a1 d.base.length p1, .slice a2 d.dflt.length p2, .slice a3 d.tag.length p3, .slice a4 d.fin.length p4, .slice a5 d.next.length p5, .slice a6 d.chk.length p6] 48 (0, 0)))
        (fun i _ => d.next.length - (intOf i).toNat)
      case atStart => exact ⟨0, by omega, rfl, E', R⟩
      case round =>
        clear E' R
        obtain ⟨k, hk, rfl, E, R⟩ := hrel
        obtain ⟨x0, x1, x2, x3, x4, x5, x6, x7⟩ := row_eight R
        by_cases hlt : k < d.next.length
        · have q1 := hf.nk
          have j1 : k < d.chk.length := by omega
          have jz : (0 : Int) ≤ (k : Int) := by omega
          have j0' : (k : Int) < (d.next.length : Int) := by omega
          have j1' : (k : Int) < (d.chk.length : Int) := by omega
          clear q1
          have b1 := allIn_at hf.ns hlt; have b2 := allIn_at hf.ks j1
          have HS : Hid _ := slotsL_succ d k
          have hlen : (slotsL d k).length + 4 ≤ N := by rw [slotsL_len]; have := HN.out; omega
          obtain ⟨b0, o0, v0, rfl, N0, g0, c0⟩ := y5.elem E.below hlt
          obtain ⟨f0, fo, v1, rfl, N1, g1, c1⟩ := y6.elem E.below j1
          rw [N0.out] at b1; rw [N1.out] at b2
          have hr : ∀ n ∈ [v0, v1], -1 ≤ n ∧ n ≤ 65535 := by
            intro n hn
            simp only [List.mem_cons, List.not_mem_nil, or_false] at hn
            omega
          have HC := fun wx hk hb => E.wr.nums hNl wx hk [v0, v1] 3 hb hr (by simp; omega) 2 2 rfl
          clear b1 b2 hr
          have HB5 : Hid (∀ wx, Kept (fun b => b = p ∨ b = g) wr wx → Below (w.heap.size + 1) wr wx) := fun wx hk => hk.below (row_lt R) (fun _ hk => hk.elim (fun e => e ▸ hpl) (fun e => e ▸ hgl))
          have HH : Hid (∀ wx, Below (w.heap.size + 1) wr wx → wx.cell? ⟨w.heap.size, 6, none⟩ = some (.slice (some ⟨b0, o0, none⟩) d.next.length p5) ∧ wx.cell? ⟨w.heap.size, 7, none⟩ = some (.slice (some ⟨f0, fo, none⟩) d.chk.length p6) ∧ wx.cell? ⟨b0, o0 + k, none⟩ = some (.int .i64 v0) ∧ wx.cell? ⟨f0, fo + k, none⟩ = some (.int .i64 v1)) :=
            fun wx hb => ⟨(hb.cell (by simp)).trans x6, (hb.cell (by simp)).trans x7, (hb.cell (by simp; omega)).trans c0, (hb.cell (by simp; omega)).trans c1⟩
          have hszr : w.heap.size + 1 ≤ wr.heap.size := row_lt R
          go_wp2
          go_region_held3 (fun wx => wx.cell? ⟨w.heap.size, 6, none⟩ = some (.slice (some ⟨b0, o0, none⟩) d.next.length p5) ∧ wx.cell? ⟨w.heap.size, 7, none⟩ = some (.slice (some ⟨f0, fo, none⟩) d.chk.length p6) ∧ wx.cell? ⟨b0, o0 + k, none⟩ = some (.int .i64 v0) ∧ wx.cell? ⟨f0, fo + k, none⟩ = some (.int .i64 v1)) ((first | exact HH.out _ (Below.refl _ _) | exact HH.out _ (Below.refl _ _).drew | exact HH.out _ ((Below.refl _ _).drew.alloc hszr _) | exact HH.out _ (((Below.refl _ _).alloc hszr _).drew) | exact HH.out _ hb5)) ((go_at_call 76; refine (HC _ (by first | exact ((Below.refl _ _).drew.alloc (Nat.le_refl _) _) | exact ((Below.refl _ _).alloc (Nat.le_refl _) _).drew) (by first | exact heap_alloc_new _ _ | exact row_drew (heap_alloc_new _ _))).mono ?_; rintro e w5 ⟨rfl, W5, K5⟩; have hb5 := HB5.out _ K5))
          all_goals
            have R5 := K5.row R hne
            have E5 : EncW w p g N (slotsL d (k + 1)) w5 := by
              have := E.step W5 K5
              rw [HS.out]
              unfold tnextAt chkAt
              rw [N0.out, N1.out]
              simpa [numsL] using this
            go_wp2
            go_roundw
            case rel => exact ⟨k + 1, by omega, by go_num, E5, R5⟩
            case measure => simp [intOf]; omega
        · have hkk : k = d.next.length := by omega
          have E' : EncW w p g N (rawL d) wr := by unfold rawL; rw [← hkk]; exact E
          clear E hkk x0 x1 x2 x3 x4 x5 x6 x7 R
          have hlen : (rawL d).length + 2 = N := by unfold rawL; rw [slotsL_len]; have := HN.out; omega
          have Hlen : Hid ((rawL d).length + 2 = N) := hlen
          have hsum := sumF_lt (rawL d)
          have hr : ∀ n ∈ [(sumF (rawL d) : Int)], -1 ≤ n ∧ n ≤ 65535 := by
            intro n hn
            simp only [List.mem_cons, List.not_mem_nil, or_false] at hn
            omega
          have HC := fun wx hk hb => E'.wr.nums hNl wx hk [(sumF (rawL d) : Int)] 3 hb hr (by simp; omega) 1 1 rfl
          obtain ⟨z0, z1, z2⟩ := row_three E'.wr.2.cur
          clear hr hlen
          have hplt : p < wr.heap.size := E'.wr.lt.1
          generalize HSM : sumF (rawL d) = sm at *
          have HSm : Hid (sumF (rawL d) = sm) := HSM
          clear HSM
          go_wp2_with fail
          refine (HC _ ((Below.refl _ _).alloc (Nat.le_refl _) _) (heap_alloc_new _ _)).mono ?_
          rintro e w5 ⟨rfl, W5, K5⟩
          clear z0 z1 z2 HC hplt
          have E5 := E'.step W5 K5
          have hI : rawL d ++ numsL [(sm : Int)] = imageL d := by unfold imageL; rw [HSm.out]; simp [numsL]
          rw [hI] at E5
          have hIl : (imageL d).length = N := by rw [← hI, List.length_append, numsL_len]; have := Hlen.out; simp; omega
          have C5 := E5.wr.2.cur
          have hpad : padL N (imageL d) = imageL d := padL_full hIl
          rw [hpad, hIl] at C5
          obtain ⟨z0, z1, z2⟩ := row_three C5
          have hcells : ∀ j (hj : j < (imageL d).length), w5.cell? ((⟨g, 0, none⟩ : Addr).add j) = some (.int .u8 ((imageL d)[j].toNat : Int)) := by
            intro j hj
            have h1 := E5.wr.2.at (j := j) (by rw [hpad]; exact hj)
            have h2 : (⟨g, 0, none⟩ : Addr).add j = ⟨g, j, none⟩ := by unfold Addr.add; split <;> simp_all
            rw [h2, h1, hpad]
            simp [List.getD, hj]
          have hcv := run_convert_bytes_back (P := Try.prog) w5 104 9 5 ⟨g, 0, none⟩ N (imageL d) Try.underlying104 Try.underlying5 Try.underlying9 hcells
          rw [hIl] at hcv
          have hbel := E5.below
          clear hcells hpad hI W5 K5 E' E5 C5
          have HIl : Hid ((imageL d).length = N) := hIl
          clear hIl
          go_wp2
          go_ret
          exact ⟨ret_str HE.out.symm, hbel⟩

set_option maxRecDepth 100000 in
set_option maxHeartbeats 1000000 in
theorem implEncode_ok {lo : Nat} (cv bv fv tv ev nv kv : Value) (d : TabD) (w : World) (hs : TabAt lo w cv bv fv tv ev nv kv d) (hsm : TabSmall d) :
    Calls Try.prog 34 #[.agg #[cv, .int .i64 d.width, bv, fv, tv, ev, nv, kv]] w fun e w' => e = .returned (.string (encF d)) ∧ Below w.heap.size w w' := by
  cases hB : tabB d
  case true => exact implEncode_t cv bv fv tv ev nv kv d w hs hsm hB
  have hT := fun wx hb => implTableOK_ok cv bv fv tv ev nv kv d wx (hs.below hb) hsm
  rw [hB] at hT
  have HE : Hid (encF d = ⟨#[]⟩) := by show _ = _; simp [encF, hB]
  have hb0 : Below w.heap.size w (w.alloc (.cells #[cv, .int .i64 d.width, bv, fv, tv, ev, nv, kv] 48)) := (Below.refl _ _).alloc (Nat.le_refl _) _
  go_enter Try.func34, Try.ntmps34
  go_wp2_with fail
  refine (hT _ hb0).mono ?_
  rintro e w1 ⟨rfl, hb1⟩
  clear hT
  go_wp2
  go_ret
  exact ⟨ret_str HE.out.symm, below_step hb0 hb0.size hb1⟩
end Go.Proofs.Ytplhghhfdabccaa
