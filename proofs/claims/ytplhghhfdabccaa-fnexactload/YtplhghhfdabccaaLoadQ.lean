import Derived.Test.YtplhghhfdabccaaLoad
import Derived.Lib.ConvBytes
import Derived.Test.YtplhghhfdabccaaStep
import Derived.Test.YtplhghhfdabccaaRowA
namespace Go.Proofs.Ytplhghhfdabccaa
open Go.RowKit
attribute [local go_sem ↓] Go.wp_at_zero Go.wp_at_succ

theorem enterNum (args : Array Value) (w : World) : (callFunc 77 args).run Try.prog w = .ok (.enter 77 args) w := by kernel_rfl
theorem enterOpt (args : Array Value) (w : World) : (callFunc 79 args).run Try.prog w = .ok (.enter 79 args) w := by kernel_rfl

/-- Reading an image: the result's block, the table's block, the seven rows. -/
structure LoadSt (w : World) (gt : Nat) (width : Int) (W : World) (v : Nat → Value) (l : Nat → List Int) : Prop where
  below : Below w.heap.size w W
  over : w.heap.size < gt
  lt : gt < W.heap.size
  res : W.heap[w.heap.size]? = some (.cells zeroA 48 (0, 0))
  row : W.heap[gt]? = some (.cells (rowA width v) 48 (0, 0))
  fam : Fam gt 7 W v l
theorem LoadSt.push {w W W1 W2 : World} {gt : Nat} {width : Int} {v : Nat → Value} {l : Nat → List Int} (h : LoadSt w gt width W v l) (hb : Below W.heap.size W W1) {i : Nat} (hi : i < 7) {g cap : Nat} {x : Int}
    (own : W2.ownsRow (gt + 1) 3 1 (.slice (some ⟨g, 0, none⟩) ((l i).length + 1) cap) ((l i).length + 1) ((l i).map intV ++ [.int .i64 x])) (grow : W1.grownBy W2 (v i).ownBlock) (at' : (v i).ownBlock = some g ∨ W1.heap.size ≤ g) :
    LoadSt w gt width (W2.setCell ⟨gt, offA i, none⟩ (.slice (some ⟨g, 0, none⟩) ((l i).length + 1) cap)) (upd v i (.slice (some ⟨g, 0, none⟩) ((l i).length + 1) cap)) (updL l i (l i ++ [x])) := by
  have hz := hb.size
  have hlt := h.lt
  have hgt := h.over
  have hfar : ∀ b, b ≤ gt → some b ≠ (v i).ownBlock := fun b hbg hc => by have := owns_block (h.fam.own i hi) hc.symm; omega
  have k1 : ∀ b, b ≤ gt → W2.heap[b]? = W.heap[b]? := fun b hbg => (grow.block b (by omega) (hfar b hbg)).trans (hb.block b (by omega))
  have hsz2 : W1.heap.size ≤ W2.heap.size := grow.size
  have hrow : W2.heap[gt]? = some (.cells (rowA width v) 48 (0, 0)) := (k1 gt (Nat.le_refl _)).trans h.row
  refine ⟨?_, hgt, by simp [World.setCell]; omega, ?_, ?_, ?_⟩
  · refine Below.setCell ?_ (by simp; omega) _
    exact (below_step h.below h.below.size hb).grown grow (Nat.le_trans h.below.size hz) (by
      intro k hk
      have := owns_block (h.fam.own i hi) hk
      omega)
  · rw [heap_setCell_other _ _ _ _ (by simp; omega)]
    exact (k1 _ (by omega)).trans h.res
  · rw [← rowA_set width v i hi]
    exact heap_setCell_same _ _ _ _ _ _ hrow
  · exact (Fam.append (h.fam.below hb) hi own grow at').set _ _

theorem LoadSt.mid {w W W1 W2 : World} {gt : Nat} {width : Int} {v : Nat → Value} {l : Nat → List Int} (h : LoadSt w gt width W v l) (hb : Below W.heap.size W W1) {i : Nat} (hi : i < 7) (grow : W1.grownBy W2 (v i).ownBlock) :
    (∀ o, W2.cell? ⟨gt, o, none⟩ = (rowA width v)[o]?) ∧ (∀ o, W2.frozen? ⟨gt, o, none⟩ = false) := by
  have hz := hb.size
  have hlt := h.lt
  have hr : W2.heap[gt]? = some (.cells (rowA width v) 48 (0, 0)) := ((grow.block gt (by omega) (fun hc => by have := owns_block (h.fam.own i hi) hc.symm; omega)).trans (hb.block gt hlt)).trans h.row
  exact ⟨fun _ => cell_of_row _ _ _ _ _ _ hr, fun _ => frozen_of_row _ _ _ _ _ hr⟩
theorem LoadSt.ownAt {w W : World} {gt : Nat} {width : Int} {v : Nat → Value} {l : Nat → List Int} (h : LoadSt w gt width W v l) {i n : Nat} (hi : i < 7) {xs : List Int} (hx : l i = xs) (hn : xs.length = n) {W1 : World} (hb : Below W.heap.size W W1) : W1.ownsRow (gt + 1) 3 1 (v i) n (xs.map intV) := by
  subst hn; subst hx
  exact (h.fam.below hb).own i hi
theorem LoadSt.push' {w W W1 W2 : World} {gt : Nat} {width : Int} {v : Nat → Value} {l : Nat → List Int} (h : LoadSt w gt width W v l) (hb : Below W.heap.size W W1) {i n off : Nat} (hi : i < 7) (ho : offA i = off) {xs : List Int} (hx : l i = xs) (hn : xs.length = n) {g cap : Nat} {x : Int}
    (own : W2.ownsRow (gt + 1) 3 1 (.slice (some ⟨g, 0, none⟩) (n + 1) cap) (n + 1) (xs.map intV ++ [.int .i64 x])) (grow : W1.grownBy W2 (v i).ownBlock) (at' : (v i).ownBlock = some g ∨ g = W1.heap.size) :
    LoadSt w gt width (W2.setCell ⟨gt, off, none⟩ (.slice (some ⟨g, 0, none⟩) (n + 1) cap)) (upd v i (.slice (some ⟨g, 0, none⟩) (n + 1) cap)) (updL l i (xs ++ [x])) := by
  subst hn; subst hx; subst ho
  exact h.push hb hi own grow (at'.imp id (fun h => by omega))
def clsP (s : ByteArray) (k : Nat) : List Int := (List.range k).map fun c => (byteN s (10 + c) : Int)
theorem clsP_succ (s : ByteArray) (k : Nat) : clsP s (k + 1) = clsP s k ++ [(byteN s (10 + k) : Int)] := by simp [clsP, List.range_succ]
theorem clsP_len (s : ByteArray) (k : Nat) : (clsP s k).length = k := by simp [clsP]

def numP (s : ByteArray) (a st k : Nat) : List Int := (List.range k).map fun i => (numN s (a + st * i) : Int)
def optP (s : ByteArray) (a st k : Nat) : List Int := (List.range k).map fun i => optN s (a + st * i)
theorem numP_succ (s : ByteArray) (a st k : Nat) : numP s a st (k + 1) = numP s a st k ++ [(numN s (a + st * k) : Int)] := by simp [numP, List.range_succ]
theorem optP_succ (s : ByteArray) (a st k : Nat) : optP s a st (k + 1) = optP s a st k ++ [optN s (a + st * k)] := by simp [optP, List.range_succ]
theorem numP_len (s : ByteArray) (a st k : Nat) : (numP s a st k).length = k := by simp [numP]
theorem optP_len (s : ByteArray) (a st k : Nat) : (optP s a st k).length = k := by simp [optP]
/-- The lists behind k states (the first four fields of a state: j of them already). -/
def l2 (s : ByteArray) (b d t e : Nat) : Nat → List Int
  | 0 => clsP s 256
  | 1 => numP s 266 8 b
  | 2 => numP s 268 8 d
  | 3 => optP s 270 8 t
  | 4 => optP s 272 8 e
  | _ => []
theorem l2_zero (s : ByteArray) : updL (fun _ => []) 0 (clsP s 256) = l2 s 0 0 0 0 := by
  funext j; match j with
  | 0 => rfl
  | 1 => rfl
  | 2 => rfl
  | 3 => rfl
  | 4 => rfl
  | j + 5 => rfl
theorem l2_one (s : ByteArray) (k : Nat) : updL (l2 s k k k k) 1 (numP s 266 8 k ++ [(numN s (266 + 8 * k) : Int)]) = l2 s (k + 1) k k k := by
  rw [← numP_succ]
  funext j; match j with
  | 0 => rfl
  | 1 => rfl
  | 2 => rfl
  | 3 => rfl
  | 4 => rfl
  | j + 5 => rfl
theorem l2_two (s : ByteArray) (k : Nat) : updL (l2 s (k + 1) k k k) 2 (numP s 268 8 k ++ [(numN s (268 + 8 * k) : Int)]) = l2 s (k + 1) (k + 1) k k := by
  rw [← numP_succ]
  funext j; match j with
  | 0 => rfl
  | 1 => rfl
  | 2 => rfl
  | 3 => rfl
  | 4 => rfl
  | j + 5 => rfl
theorem l2_three (s : ByteArray) (k : Nat) : updL (l2 s (k + 1) (k + 1) k k) 3 (optP s 270 8 k ++ [optN s (270 + 8 * k)]) = l2 s (k + 1) (k + 1) (k + 1) k := by
  rw [← optP_succ]
  funext j; match j with
  | 0 => rfl
  | 1 => rfl
  | 2 => rfl
  | 3 => rfl
  | 4 => rfl
  | j + 5 => rfl
theorem l2_four (s : ByteArray) (k : Nat) : updL (l2 s (k + 1) (k + 1) (k + 1) k) 4 (optP s 272 8 k ++ [optN s (272 + 8 * k)]) = l2 s (k + 1) (k + 1) (k + 1) (k + 1) := by
  rw [← optP_succ]
  funext j; match j with
  | 0 => rfl
  | 1 => rfl
  | 2 => rfl
  | 3 => rfl
  | 4 => rfl
  | j + 5 => rfl
def l3 (s : ByteArray) (n a b : Nat) : Nat → List Int
  | 0 => clsP s 256
  | 1 => numP s 266 8 n
  | 2 => numP s 268 8 n
  | 3 => optP s 270 8 n
  | 4 => optP s 272 8 n
  | 5 => numP s (266 + 8 * n) 4 a
  | 6 => optP s (268 + 8 * n) 4 b
  | _ => []
theorem l3_zero (s : ByteArray) (n : Nat) : l2 s n n n n = l3 s n 0 0 := by
  funext j; match j with
  | 0 => rfl
  | 1 => rfl
  | 2 => rfl
  | 3 => rfl
  | 4 => rfl
  | 5 => rfl
  | 6 => rfl
  | j + 7 => rfl
theorem l3_one (s : ByteArray) (n k : Nat) : updL (l3 s n k k) 5 (numP s (266 + 8 * n) 4 k ++ [(numN s (266 + 8 * n + 4 * k) : Int)]) = l3 s n (k + 1) k := by
  rw [← numP_succ]
  funext j; match j with
  | 0 => rfl
  | 1 => rfl
  | 2 => rfl
  | 3 => rfl
  | 4 => rfl
  | 5 => rfl
  | 6 => rfl
  | j + 7 => rfl
theorem l3_two (s : ByteArray) (n k : Nat) : updL (l3 s n (k + 1) k) 6 (optP s (268 + 8 * n) 4 k ++ [optN s (268 + 8 * n + 4 * k)]) = l3 s n (k + 1) (k + 1) := by
  rw [← optP_succ]
  funext j; match j with
  | 0 => rfl
  | 1 => rfl
  | 2 => rfl
  | 3 => rfl
  | 4 => rfl
  | 5 => rfl
  | 6 => rfl
  | j + 7 => rfl
theorem l3Sum_len (g cap len : Nat) (bs : List UInt8) (w : World) (hlen : len = bs.length) (hown : ∀ k, k < bs.length → w.cell? ⟨g, k, none⟩ = some (.int .u8 ((bs.getD k 0).toNat : Int))) (hl : bs.length ≤ 1900000) :
    Calls Try.prog 78 #[.slice (some ⟨g, 0, none⟩) len cap] w fun e w' => e = .returned (.int .i64 (sumF bs)) ∧ w' = w := by
  subst hlen; exact l3Sum_at g cap bs w hown hl
theorem bytesWorld_below (w : World) (e : TypeId) (s : ByteArray) : Below w.heap.size w (Go.Lib.bytesWorld w e s) := by
  have h := (Below.refl w.heap.size w).drew
  exact ⟨h.1, h.2, h.3, by rw [Go.Lib.bytesWorld_size]; omega, fun k hk => Go.Lib.bytesWorld_at_old w e s k hk⟩
theorem LoadSt.tab {w W : World} {gt : Nat} {width : Int} {v : Nat → Value} {l : Nat → List Int} (h : LoadSt w gt width W v l) (hl : ∀ i, i < 7 → (l i).length ≤ 1048576) : TabAt (gt + 1) W (v 0) (v 1) (v 2) (v 3) (v 4) (v 5) (v 6) (tabOf width l) := by
  have o : ∀ i, i < 7 → IntsAt (gt + 1) W (v i) (l i) := fun i hi => (h.fam.own i hi).at (by have := hl i hi; omega)
  exact ⟨o 0 (by omega), o 1 (by omega), o 2 (by omega), o 3 (by omega), o 4 (by omega), o 5 (by omega), o 6 (by omega)⟩
theorem l3_len (s : ByteArray) (n m : Nat) (hn : n ≤ 4000) (hm : m ≤ 60000) : ∀ i, i < 7 → (l3 s n m m i).length ≤ 1048576 := by
  intro i hi
  match i, hi with
  | 0, _ => show (clsP s 256).length ≤ _; rw [clsP_len]; omega
  | 1, _ => show (numP s 266 8 n).length ≤ _; rw [numP_len]; omega
  | 2, _ => show (numP s 268 8 n).length ≤ _; rw [numP_len]; omega
  | 3, _ => show (optP s 270 8 n).length ≤ _; rw [optP_len]; omega
  | 4, _ => show (optP s 272 8 n).length ≤ _; rw [optP_len]; omega
  | 5, _ => show (numP s (266 + 8 * n) 4 m).length ≤ _; rw [numP_len]; omega
  | 6, _ => show (optP s (268 + 8 * n) 4 m).length ≤ _; rw [optP_len]; omega
end Go.Proofs.Ytplhghhfdabccaa
