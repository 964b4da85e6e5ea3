import Derived.Test.YtplhghhfdabccaaEnc
import Derived.Test.YtplhghhfdabccaaRow
import Derived.Test.YtplhghhfdabccaaInts
namespace Go.Proofs.Ytplhghhfdabccaa
open Go.RowKit
attribute [local go_sem ↓] Go.wp_at_zero Go.wp_at_succ

/- A CURSOR over bytes: the slice, where it stands, the sum. -/
theorem row_three {w : World} {g : Nat} {a b c : Value} {t : TypeId} (h : w.heap[g]? = some (.cells #[a, b, c] t (0, 0))) : w.cell? ⟨g, 0, none⟩ = some a ∧ w.cell? ⟨g, 1, none⟩ = some b ∧ w.cell? ⟨g, 2, none⟩ = some c :=
  ⟨row_cells h 0, row_cells h 1, row_cells h 2⟩

/-- No block but those of S has turned. -/
structure Kept (S : Nat → Prop) (w w' : World) : Prop where
  os : w'.os = w.os
  tape : w'.tape = w.tape
  output : w'.output = w.output
  size : w.heap.size ≤ w'.heap.size
  block : ∀ k, k < w.heap.size → ¬S k → w'.heap[k]? = w.heap[k]?
theorem Kept.refl (S : Nat → Prop) (w : World) : Kept S w w := ⟨rfl, rfl, rfl, Nat.le_refl _, fun _ _ _ => rfl⟩
theorem Kept.trans {S : Nat → Prop} {a b c : World} (h : Kept S a b) (k : Kept S b c) : Kept S a c :=
  ⟨k.os.trans h.os, k.tape.trans h.tape, k.output.trans h.output, Nat.le_trans h.size k.size, fun i hi hs => (k.block i (Nat.lt_of_lt_of_le hi h.size) hs).trans (h.block i hi hs)⟩
theorem Kept.mono {S T : Nat → Prop} {a b : World} (h : Kept S a b) (hst : ∀ k, S k → T k) : Kept T a b := ⟨h.os, h.tape, h.output, h.size, fun k hk hn => h.block k hk (fun hs => hn (hst k hs))⟩
theorem Kept.of_below {S : Nat → Prop} {a b : World} (h : Below a.heap.size a b) : Kept S a b := ⟨h.os, h.tape, h.output, h.size, fun k hk _ => h.block k hk⟩
theorem Kept.drew {S : Nat → Prop} {a b : World} (h : Kept S a b) : Kept S a b.drew := ⟨h.os, h.tape, h.output, h.size, h.block⟩
theorem Kept.alloc {S : Nat → Prop} {a b : World} (h : Kept S a b) (o : Obj) : Kept S a (b.alloc o) := h.trans (.of_below ((Below.refl _ _).alloc (Nat.le_refl _) _))
theorem Kept.setCell {S : Nat → Prop} {a b : World} (h : Kept S a b) {p : Addr} (hp : S p.block) (u : Value) : Kept S a (b.setCell p u) :=
  h.trans ⟨rfl, rfl, rfl, by simp [World.setCell], fun k _ hs => heap_setCell_other _ _ _ _ (fun e => hs (by rw [e]; exact hp))⟩
theorem Kept.below {S : Nat → Prop} {a b : World} (h : Kept S a b) {B : Nat} (hB : B ≤ a.heap.size) (hS : ∀ k, S k → B ≤ k) : Below B a b :=
  ⟨h.os, h.tape, h.output, h.size, fun k hk => h.block k (by omega) (fun hs => by have := hS k hs; omega)⟩
theorem Kept.row {S : Nat → Prop} {a b : World} (h : Kept S a b) {g : Nat} {o : Obj} (hr : a.heap[g]? = some o) (hs : ¬S g) : b.heap[g]? = some o := (h.block g (row_lt hr) hs).trans hr

def sumStep (s : Nat) (b : UInt8) : Nat := (s + b.toNat) % 65536
theorem sumStep_lt (s : Nat) (b : UInt8) : sumStep s b < 65536 := Nat.mod_lt _ (by omega)
theorem sumF_snoc (l : List UInt8) (b : UInt8) : sumF (l ++ [b]) = sumStep (sumF l) b := by simp [sumF, sumStep]

/-- The cursor at p over the bytes L of row g. -/
structure Cur (T : TypeId) (X : Array Value) (m : Nat × Nat) (p g cap : Nat) (L : List UInt8) (k s : Nat) (w : World) : Prop where
  ne : g ≠ p
  cur : w.heap[p]? = some (.cells #[.slice (some ⟨g, 0, none⟩) L.length cap, .int .i64 k, .int .u16 s] T (0, 0))
  row : w.heap[g]? = some (.cells ((L.map byteV).toArray ++ X) 5 m)
theorem Cur.at {T : TypeId} {X : Array Value} {m : Nat × Nat} {p g cap : Nat} {L : List UInt8} {k s : Nat} {w : World} (h : Cur T X m p g cap L k s w) {j : Nat} (hj : j < L.length) : w.cell? ⟨g, j, none⟩ = some (.int .u8 ((L.getD j 0).toNat : Int)) := by
  rw [cell_of_row _ _ _ _ _ _ h.row, Array.getElem?_append_left (by simpa using hj)]
  simp [List.getD, hj, byteV]
theorem Cur.keep {T : TypeId} {X : Array Value} {m : Nat × Nat} {p g cap : Nat} {L : List UInt8} {k s : Nat} {w w' : World} (h : Cur T X m p g cap L k s w) {S : Nat → Prop} (hk : Kept S w w') (hp : ¬S p) (hg : ¬S g) : Cur T X m p g cap L k s w' :=
  ⟨h.ne, hk.row h.cur hp, hk.row h.row hg⟩
theorem Cur.step {T : TypeId} {X : Array Value} {m : Nat × Nat} {p g cap : Nat} {L : List UInt8} {k s : Nat} {w : World} (h : Cur T X m p g cap L k s w) (k' s' : Nat) :
    Cur T X m p g cap L k' s' ((w.setCell ⟨p, 1, none⟩ (.int .i64 k')).setCell ⟨p, 2, none⟩ (.int .u16 s')) := by
  refine ⟨h.ne, ?_, ?_⟩
  · have h1 := heap_setCell_same w p 1 _ _ (.int .i64 k') h.cur
    have h2 := heap_setCell_same _ p 2 _ _ (.int .u16 s') h1
    simpa using h2
  · rw [heap_setCell_other _ _ _ _ h.ne, heap_setCell_other _ _ _ _ h.ne]
    exact h.row

theorem Cur.drew {T : TypeId} {X : Array Value} {m : Nat × Nat} {p g cap : Nat} {L : List UInt8} {k s : Nat} {w : World} (h : Cur T X m p g cap L k s w) : Cur T X m p g cap L k s w.drew := ⟨h.ne, h.cur, h.row⟩
theorem Cur.drewN {T : TypeId} {X : Array Value} {m : Nat × Nat} {p g cap : Nat} {L : List UInt8} {k s : Nat} {w : World} (h : Cur T X m p g cap L k s w) (n : Nat) : Cur T X m p g cap L k s (w.drewN n) := ⟨h.ne, by simpa using h.cur, by simpa using h.row⟩
theorem Kept.drewN {S : Nat → Prop} {a b : World} (h : Kept S a b) (n : Nat) : Kept S a (b.drewN n) := h.trans (.of_below (below_drewN (Below.refl _ _) _))
theorem wrap16 (n : Nat) : IntKind.u16.wrap (n : Int) = ((n % 65536 : Nat) : Int) := by
  simp [IntKind.wrap, IntKind.bits, IntKind.signed]

set_option maxRecDepth 100000 in
set_option maxHeartbeats 400000 in
theorem pass_ok {T : TypeId} {X : Array Value} {m : Nat × Nat} (p g cap : Nat) (L : List UInt8) (k s : Nat) (w : World) (h : Cur T X m p g cap L k s w) (hk : k < L.length) (hL : L.length ≤ 1900000) :
    Calls Try.prog 105 #[.pointer (some ⟨p, 0, none⟩)] w fun e w' => e = .returned (.int .u8 ((L.getD k 0).toNat : Int)) ∧ Cur T X m p g cap L (k + 1) (sumStep s (L.getD k 0)) w' ∧ Kept (fun b => b = p) w w' := by
  obtain ⟨c0, c1, c2⟩ := row_three h.cur
  have r0 := h.at hk
  have f1 := frozen_of_row _ _ 1 _ _ h.cur
  have f2 := frozen_of_row _ _ 2 _ _ h.cur
  have i0 : (0 : Int) ≤ (k : Int) := by omega
  have i1 : (k : Int) < (L.length : Int) := by omega
  have hb : (L.getD k 0).toNat < 256 := UInt8.toNat_lt _
  have HC : Hid (∀ n, Cur T X m p g cap L (k + 1) (sumStep s (L.getD k 0)) (((w.drewN n).setCell ⟨p, 1, none⟩ (.int .i64 ((k : Int) + 1))).setCell ⟨p, 2, none⟩ (.int .u16 (IntKind.u16.wrap ((s : Int) + ((L.getD k 0).toNat : Int)))))) := fun n => by
    have := (h.drewN n).step (k + 1) (sumStep s (L.getD k 0))
    have e : IntKind.u16.wrap ((s : Int) + ((L.getD k 0).toNat : Int)) = (sumStep s (L.getD k 0) : Int) := wrap16 (s + (L.getD k 0).toNat)
    rw [e]
    exact this
  generalize sumStep s (L.getD k 0) = s' at *
  generalize (L.getD k 0).toNat = x at *
  go_enter Try.func105, Try.ntmps105
  go_wp2
  go_quiet (fail)
  go_wp2
  go_ret
  exact ⟨rfl, HC.out _, (((Kept.refl _ _).drewN _).setCell (by rfl) _).setCell (by rfl) _⟩

/-- A byte put in: the row's cell. -/
theorem Cur.put {T : TypeId} {X : Array Value} {p g cap : Nat} {L : List UInt8} {k s : Nat} {w : World} (h : Cur T X (0, 0) p g cap L k s w) (j : Nat) (hj : j < L.length) (b : UInt8) : Cur T X (0, 0) p g cap (L.set j b) k s (w.setCell ⟨g, j, none⟩ (.int .u8 (b.toNat : Int))) := by
  refine ⟨h.ne, ?_, ?_⟩
  · rw [heap_setCell_other _ _ _ _ (fun e => h.ne e.symm), List.length_set]
    exact h.cur
  · rw [heap_setCell_same _ g j _ _ _ h.row]
    congr 2
    rw [Array.setIfInBounds_append_left (by simpa using hj)]
    congr 1
    apply Array.ext'
    simp [List.map_set, byteV]

set_option maxRecDepth 100000 in
set_option maxHeartbeats 400000 in
theorem put_ok {T : TypeId} {X : Array Value} (p g cap : Nat) (L : List UInt8) (k s : Nat) (b : UInt8) (x : Int) (w : World) (h : Cur T X (0, 0) p g cap L k s w) (hx : x = (b.toNat : Int)) (hk : k < L.length) (hL : L.length ≤ 1900000) :
    Calls Try.prog 104 #[.pointer (some ⟨p, 0, none⟩), .int .u8 x] w fun e w' => e = .returned (.tuple #[]) ∧ Cur T X (0, 0) p g cap (L.set k b) (k + 1) (sumStep s b) w' ∧ Kept (fun b => b = p ∨ b = g) w w' := by
  subst hx
  obtain ⟨c0, c1, c2⟩ := row_three h.cur
  have r0 := h.at hk
  have f1 := frozen_of_row _ _ k _ _ h.row
  have i0 : (0 : Int) ≤ (k : Int) := by omega
  have i1 : (k : Int) < (L.length : Int) := by omega
  have HP : Hid (Cur T X (0, 0) p g cap (L.set k b) k s (w.setCell ⟨g, k, none⟩ (.int .u8 (b.toNat : Int))).drew) := (h.put k hk b).drew
  have HK : Hid (Kept (fun b => b = p ∨ b = g) w (w.setCell ⟨g, k, none⟩ (.int .u8 (b.toNat : Int))).drew) := ((Kept.refl _ _).setCell (Or.inr rfl) _).drew
  have hb : b.toNat < 256 := UInt8.toNat_lt _
  have hl : (L.set k b).length = L.length := List.length_set
  have HB : Hid ((L.set k b).getD k 0 = b) := by show _ = _; simp [List.getD, hk]
  go_enter Try.func104, Try.ntmps104
  go_wp2
  go_region
  all_goals
    go_wp2_with fail
    refine (pass_ok p g cap (L.set k b) k s _ HP.out (by omega) (by omega)).mono ?_
    rintro e w1 ⟨rfl, C1, K1⟩
    rw [HB.out] at C1
    go_wp2
    go_end0
    exact ⟨rfl, C1, HK.out.trans (K1.mono (fun _ => Or.inl))⟩

/- THE WRITER: the bytes so far, the rest zero. -/
def padL (N : Nat) (bs : List UInt8) : List UInt8 := bs ++ List.replicate (N - bs.length) 0
theorem padL_len {N : Nat} {bs : List UInt8} (h : bs.length ≤ N) : (padL N bs).length = N := by simp [padL]; omega
theorem padL_set {N : Nat} {bs : List UInt8} (h : bs.length < N) (b : UInt8) : (padL N bs).set bs.length b = padL N (bs ++ [b]) := by
  unfold padL
  rw [List.set_append, if_neg (by omega), Nat.sub_self, List.append_assoc]
  have e : N - bs.length = (N - (bs ++ [b]).length) + 1 := by simp; omega
  rw [e, List.replicate_succ]
  rfl
theorem padL_full {N : Nat} {bs : List UInt8} (h : bs.length = N) : padL N bs = bs := by simp [padL, h]
def Wr (p g N : Nat) (bs : List UInt8) (w : World) : Prop := bs.length ≤ N ∧ Cur 109 #[] (0, 0) p g N (padL N bs) bs.length (sumF bs) w
theorem Wr.keep {p g N : Nat} {bs : List UInt8} {w w' : World} (h : Wr p g N bs w) {S : Nat → Prop} (hk : Kept S w w') (hp : ¬S p) (hg : ¬S g) : Wr p g N bs w' := ⟨h.1, h.2.keep hk hp hg⟩
theorem Wr.put {p g N : Nat} {bs : List UInt8} {w : World} (h : Wr p g N bs w) (hN : N ≤ 1900000) (b : UInt8) (x : Int) (hx : x = (b.toNat : Int)) (hl : bs.length < N) :
    Calls Try.prog 104 #[.pointer (some ⟨p, 0, none⟩), .int .u8 x] w fun e w' => e = .returned (.tuple #[]) ∧ Wr p g N (bs ++ [b]) w' ∧ Kept (fun b => b = p ∨ b = g) w w' := by
  refine (put_ok p g N (padL N bs) bs.length (sumF bs) b x w h.2 hx (by rw [padL_len h.1]; exact hl) (by rw [padL_len h.1]; exact hN)).mono ?_
  rintro e w' ⟨rfl, C, K⟩
  refine ⟨rfl, ⟨by simp; omega, ?_⟩, K⟩
  rw [padL_set hl, ← sumF_snoc] at C
  simpa using C

/- NUMBERS, two bytes each. -/
def numsL (ns : List Int) : List UInt8 := ns.flatMap twoL
theorem numsL_take (ns : List Int) (k : Nat) (hk : k < ns.length) (n : Int) (hn : ns.getD k 0 = n) : numsL (ns.take (k + 1)) = numsL (ns.take k) ++ twoL n := by
  have e : ns[k] = n := by rw [← hn]; simp [List.getD, hk]
  rw [List.take_succ_eq_append_getElem hk, e]
  simp [numsL]
theorem numsL_len (ns : List Int) : (numsL ns).length = 2 * ns.length := by
  induction ns with
  | nil => rfl
  | cons a r ih => simp only [numsL, List.flatMap_cons, List.length_append, twoL_len, List.length_cons] at *; omega

theorem two_hi {n : Int} (h0 : -1 ≤ n) (h1 : n ≤ 65535) : n / 256 % 256 = ((UInt8.ofNat (twoM n / 256)).toNat : Int) := by
  unfold twoM
  split <;> simp <;> omega
theorem two_lo {n : Int} (h0 : -1 ≤ n) (h1 : n ≤ 65535) : n % 256 = ((UInt8.ofNat (twoM n % 256)).toNat : Int) := by
  unfold twoM
  split <;> simp <;> omega
set_option maxRecDepth 100000 in
set_option maxHeartbeats 400000 in
theorem numbers_ok {lo : Nat} (p g N : Nat) (bs : List UInt8) (v : Value) (ns : List Int) (w : World) (h : Wr p g N bs w) (hN : N ≤ 1900000) (hs : IntsAt lo w v ns) (hp : p < lo) (hg : g < lo) (hr : Hid (∀ n ∈ ns, -1 ≤ n ∧ n ≤ 65535)) (hl : bs.length + 2 * ns.length ≤ N) :
    Calls Try.prog 76 #[.pointer (some ⟨p, 0, none⟩), v] w fun e w' => e = .returned (.tuple #[]) ∧ Wr p g N (bs ++ numsL ns) w' ∧ Kept (fun b => b = p ∨ b = g) w w' := by
  obtain ⟨ao, cap, rfl, hm, hc⟩ := hs
  go_enter Try.func76, Try.ntmps76
  go_wp2
  go_loopw [8] (fun i wr => ∃ k : Nat, k ≤ ns.length ∧ i = .int .i64 k ∧ ∃ cs, Hid (cs = bs ++ numsL (ns.take k)) ∧ Wr p g N cs wr ∧ Kept (fun b => b = p ∨ b = g) w wr)
    (fun i _ => ns.length - (intOf i).toNat)
  case atStart => exact ⟨0, Nat.zero_le _, rfl, bs, by show _ = _; simp [numsL], h, Kept.refl _ _⟩
  case round =>
    obtain ⟨k, hk, rfl, cs, HC, W, K⟩ := hrel
    by_cases hlt : k < ns.length
    · obtain ⟨b, o, rfl, hge, hblt, hcell⟩ := hc (by omega)
      have c0 : wr.cell? ⟨b, o + k, none⟩ = some (.int .i64 (ns.getD k 0)) := (World.cell?_of_block (K.block b hblt (by omega))).trans (hcell k hlt)
      have hn := hr.out (ns.getD k 0) (by simp [List.getD, hlt])
      have HN : Hid _ := numsL_take ns k hlt _ rfl
      have hcl : cs.length = bs.length + 2 * k := by rw [HC.out, List.length_append, numsL_len, List.length_take]; omega
      have Hcl : Hid (cs.length = bs.length + 2 * k) := hcl
      have hcl1 : cs.length + 2 ≤ N := by omega
      have hcl2 : cs.length < N := by omega
      clear hcl
      generalize ns.getD k 0 = n at *
      go_wp2_with fail
      refine (W.put hN (UInt8.ofNat (twoM n / 256)) _ (two_hi hn.1 hn.2) hcl2).mono ?_
      rintro e w1 ⟨rfl, W1, K1⟩
      go_wp2_with fail
      refine (W1.put hN (UInt8.ofNat (twoM n % 256)) _ (two_lo hn.1 hn.2) (by simp; omega)).mono ?_
      rintro e w2 ⟨rfl, W2, K2⟩
      rw [List.append_assoc] at W2
      go_wp2
      go_roundw
      case rel => exact ⟨k + 1, by omega, by go_num, cs ++ twoL n, by show _ = _; rw [HN.out, HC.out, List.append_assoc], W2, (K.trans K1).trans K2⟩
      case measure => simp [intOf]; omega
    · have hkk : k = ns.length := by omega
      rw [hkk, List.take_length] at HC
      go_wp2
      go_end0
      exact ⟨rfl, by rw [← HC.out]; exact W, K⟩
end Go.Proofs.Ytplhghhfdabccaa
