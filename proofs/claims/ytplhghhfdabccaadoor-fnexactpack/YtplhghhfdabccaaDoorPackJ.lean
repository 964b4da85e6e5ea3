import Derived.Test.YtplhghhfdabccaaDoorPackI
import Derived.Test.YtplhghhfdabccaaDoorDfaI
namespace Go.Proofs.YtplhghhfdabccaaDoor
open Go.RowKit
attribute [local go_sem ↓] Go.wp_at_zero Go.wp_at_succ

set_option maxRecDepth 100000 in
set_option maxHeartbeats 4000000 in
theorem implPack_bad {lo : Nat} (cv nv tv ev : Value) (d : DfaD) (w : World) (hs : DfaAt lo w cv nv tv ev d) (hsm : DfaSmall d) (hB : dfaB d = false) :
    Calls Tryd.prog 7 #[.agg #[cv, .int .i64 d.width, nv, tv, ev]] w fun e w' => LoadAns w 0 1 (fun _ => []) e w' := by
  have hb0 : Below w.heap.size w ((w.alloc (.cells #[cv, .int .i64 d.width, nv, tv, ev] 30)).alloc (.cells zeroA 27)) := ((Below.refl _ _).alloc (Nat.le_refl _) _).alloc (by simp) _
  have r0 : ((w.alloc (.cells #[cv, .int .i64 d.width, nv, tv, ev] 30)).alloc (.cells zeroA 27)).heap[w.heap.size + 1]? = some (.cells zeroA 27 (0, 0)) := by
    have := heap_alloc_new (w.alloc (.cells #[cv, .int .i64 d.width, nv, tv, ev] 30)) (.cells zeroA 27)
    simpa using this
  have hT := implDfaOK_ok cv nv tv ev d _ (hs.below hb0) hsm
  rw [hB] at hT
  go_enter Tryd.func7, Tryd.ntmps7
  go_wp2_with fail
  refine hT.mono ?_
  rintro e w1 ⟨rfl, hb1⟩
  have r1 := row_below r0 hb1
  have hb2 := below_step hb0 hb0.size hb1
  clear r0 hb0 hb1 hT
  have fr : ∀ o, w1.frozen? ⟨w.heap.size + 1, o, none⟩ = false := fun _ => frozen_of_row _ _ _ _ _ r1
  unfold zeroA at r1
  obtain ⟨y0, y1, y2, y3, y4, y5, y6, y7⟩ := row_eight r1
  clear r1
  go_wp2
  refine bodyPost_ret (v := .tuple #[.agg #[.slice none 0 0, .int .i64 0, .slice none 0 0, .slice none 0 0, .slice none 0 0, .slice none 0 0, .slice none 0 0, .slice none 0 0], .int .i64 1]) (by simp [results, Tryd.results7, go_sem, y0, y1, y2, y3, y4, y5, y6, y7]) rfl ?_
  have h8 := below_set8 hb2 (show w.heap.size ≤ w.heap.size + 1 by omega) (.slice none 0 0) (.int .i64 0) (.slice none 0 0) (.slice none 0 0) (.slice none 0 0) (.slice none 0 0) (.slice none 0 0) (.slice none 0 0)
  exact ⟨w.heap.size, fun _ => .slice none 0 0, rfl, Nat.le_refl _, Fam.nil _ _ _, h8⟩

/-- A copy, whatever has been laid since w1. -/
theorem clone_since {w1 : World} (b o cap : Nat) (xs : List Int) (hbl : b < w1.heap.size) (hc : ∀ i, i < xs.length → w1.cell? ⟨b, o + i, none⟩ = some (.int .i64 (xs.getD i 0))) (h0 : 0 < xs.length) (h1 : xs.length ≤ 1048576) (wx : World) (hb : Below w1.heap.size w1 wx) :
    Calls Tryd.prog 19 #[.slice (some ⟨b, o, none⟩) xs.length cap] wx fun e w' => ∃ g cap, e = .returned (.slice (some ⟨g, 0, none⟩) xs.length cap) ∧ Owns wx.heap.size w' (.slice (some ⟨g, 0, none⟩) xs.length cap) xs ∧ Below wx.heap.size wx w' ∧ Below w1.heap.size w1 w' := by
  refine (clone_ok (lo := 0) (.slice (some ⟨b, o, none⟩) xs.length cap) xs wx ⟨_, _, rfl, by omega, fun _ => ⟨b, o, rfl, Nat.zero_le _, Nat.lt_of_lt_of_le hbl hb.size, fun i hi => (hb.cell (by exact hbl)).trans (hc i hi)⟩⟩ h0 h1).mono ?_
  rintro e w' ⟨g, cap, rfl, h1, h2⟩
  exact ⟨g, cap, rfl, h1, h2, below_step hb hb.size h2⟩

/- THE TABLE's BLOCK with its three copies. -/
structure PkA (w : World) (D : Array Value) (gt : Nat) (width : Int) (W : World) (v : Nat → Value) (l : Nat → List Int) : Prop where
  below : Below w.heap.size w W
  box : W.heap[w.heap.size]? = some (.cells D 30 (0, 0))
  res : W.heap[w.heap.size + 1]? = some (.cells zeroA 27 (0, 0))
  row : W.heap[gt]? = some (.cells (rowA width (tvw v)) 27 (0, 0))
  fam : Fam (w.heap.size + 1) 7 W v l
  far : ∀ i, i < 7 → ∀ b, (v i).ownBlock = some b → b ≠ gt
  o1 : w.heap.size + 1 < gt
  nil5 : ∀ i, i < 2 → v (5 + i) = .slice none 0 0
def tri (a b c : Value) : Nat → Value
  | 0 => a
  | 3 => b
  | 4 => c
  | _ => .slice none 0 0
theorem tri_own {a b c : Value} {i k : Nat} (hi : i < 7) (h : (tri a b c i).ownBlock = some k) : (i = 0 ∧ a.ownBlock = some k) ∨ (i = 3 ∧ b.ownBlock = some k) ∨ (i = 4 ∧ c.ownBlock = some k) := by
  match i, hi with
  | 0, _ => exact .inl ⟨rfl, h⟩
  | 1, _ => cases h
  | 2, _ => cases h
  | 3, _ => exact .inr (.inl ⟨rfl, h⟩)
  | 4, _ => exact .inr (.inr ⟨rfl, h⟩)
  | 5, _ => cases h
  | 6, _ => cases h
theorem owns_since {B B' : Nat} {W W' : World} {v : Value} {xs : List Int} (h : Owns B W v xs) (hB : B' ≤ B) (hb : Below W.heap.size W W') : Owns B' W' v xs := by
  have h1 := owns_keep (W' := W') h fun b hbb => hb.block b (owns_block h hbb).2
  exact ⟨h1.1, h1.2.elim .inl fun ⟨g, cap, cur, hv, hg, r⟩ => .inr ⟨g, cap, cur, hv, by omega, r⟩⟩
theorem PkA.of {w W : World} {D : Array Value} {gt : Nat} {width : Int} {ga gb gc pa pb pc : Nat} {A B C : List Int} (below : Below w.heap.size w W) (box : W.heap[w.heap.size]? = some (.cells D 30 (0, 0))) (res : W.heap[w.heap.size + 1]? = some (.cells zeroA 27 (0, 0)))
    (row : W.heap[gt]? = some (.cells #[.slice (some ⟨ga, 0, none⟩) A.length pa, .int .i64 width, .slice none 0 0, .slice none 0 0, .slice (some ⟨gb, 0, none⟩) B.length pb, .slice (some ⟨gc, 0, none⟩) C.length pc, .slice none 0 0, .slice none 0 0] 27 (0, 0))) (o1 : w.heap.size + 1 < gt)
    (oa : Owns (w.heap.size + 1 + 1) W (.slice (some ⟨ga, 0, none⟩) A.length pa) A) (ob : Owns (w.heap.size + 1 + 1) W (.slice (some ⟨gb, 0, none⟩) B.length pb) B) (oc : Owns (w.heap.size + 1 + 1) W (.slice (some ⟨gc, 0, none⟩) C.length pc) C)
    (h : ga ≠ gt ∧ gb ≠ gt ∧ gc ≠ gt ∧ ga ≠ gb ∧ ga ≠ gc ∧ gb ≠ gc) :
    PkA w D gt width W (tri (.slice (some ⟨ga, 0, none⟩) A.length pa) (.slice (some ⟨gb, 0, none⟩) B.length pb) (.slice (some ⟨gc, 0, none⟩) C.length pc)) (pkL A B C ⟨[], [], [], []⟩ []) := by
  have nl : Owns (w.heap.size + 1 + 1) W (.slice none 0 0) [] := (Fam.nil (w.heap.size + 1) 1 W).own 0 (by omega)
  have e : ∀ g n p k, (Value.slice (some ⟨g, 0, none⟩) n p).ownBlock = some k → g = k := fun g n p k hk => by
    simp [Value.ownBlock] at hk; exact hk
  refine ⟨below, box, res, row, ⟨fun i hi => ?_, fun i j hi hj hne k hk hc => ?_⟩, fun i hi k hk => ?_, o1, fun i hi => ?_⟩
  · match i, hi with
    | 0, _ => exact oa
    | 1, _ => exact nl
    | 2, _ => exact nl
    | 3, _ => exact ob
    | 4, _ => exact oc
    | 5, _ => exact nl
    | 6, _ => exact nl
  · rcases tri_own hi hk with ⟨rfl, q⟩ | ⟨rfl, q⟩ | ⟨rfl, q⟩ <;> rcases tri_own hj hc with ⟨rfl, q'⟩ | ⟨rfl, q'⟩ | ⟨rfl, q'⟩ <;>
      (have z := e _ _ _ _ q; have z' := e _ _ _ _ q'; omega)
  · rcases tri_own hi hk with ⟨rfl, q⟩ | ⟨rfl, q⟩ | ⟨rfl, q⟩ <;> (have z := e _ _ _ _ q; omega)
  · match i, hi with
    | 0, _ => rfl
    | 1, _ => rfl
theorem row_set8 {W : World} {b : Nat} {T : TypeId} (h : W.heap[b]? = some (.cells zeroA T (0, 0))) (u0 u1 u2 u3 u4 u5 u6 u7 : Value) : (set8 W b u0 u1 u2 u3 u4 u5 u6 u7).heap[b]? = some (.cells #[u0, u1, u2, u3, u4, u5, u6, u7] T (0, 0)) := by
  have h0 : (W.setCell ⟨b, 0, none⟩ u0).heap[b]? = some (.cells #[u0, .int .i64 0, .slice none 0 0, .slice none 0 0, .slice none 0 0, .slice none 0 0, .slice none 0 0, .slice none 0 0] T (0, 0)) := heap_setCell_same _ _ 0 _ _ u0 h
  have h1 : ((W.setCell ⟨b, 0, none⟩ u0).setCell ⟨b, 1, none⟩ u1).heap[b]? = some (.cells #[u0, u1, .slice none 0 0, .slice none 0 0, .slice none 0 0, .slice none 0 0, .slice none 0 0, .slice none 0 0] T (0, 0)) := heap_setCell_same _ _ 1 _ _ u1 h0
  have h2 : (((W.setCell ⟨b, 0, none⟩ u0).setCell ⟨b, 1, none⟩ u1).setCell ⟨b, 2, none⟩ u2).heap[b]? = some (.cells #[u0, u1, u2, .slice none 0 0, .slice none 0 0, .slice none 0 0, .slice none 0 0, .slice none 0 0] T (0, 0)) := heap_setCell_same _ _ 2 _ _ u2 h1
  have h3 : ((((W.setCell ⟨b, 0, none⟩ u0).setCell ⟨b, 1, none⟩ u1).setCell ⟨b, 2, none⟩ u2).setCell ⟨b, 3, none⟩ u3).heap[b]? = some (.cells #[u0, u1, u2, u3, .slice none 0 0, .slice none 0 0, .slice none 0 0, .slice none 0 0] T (0, 0)) := heap_setCell_same _ _ 3 _ _ u3 h2
  have h4 : (((((W.setCell ⟨b, 0, none⟩ u0).setCell ⟨b, 1, none⟩ u1).setCell ⟨b, 2, none⟩ u2).setCell ⟨b, 3, none⟩ u3).setCell ⟨b, 4, none⟩ u4).heap[b]? = some (.cells #[u0, u1, u2, u3, u4, .slice none 0 0, .slice none 0 0, .slice none 0 0] T (0, 0)) := heap_setCell_same _ _ 4 _ _ u4 h3
  have h5 : ((((((W.setCell ⟨b, 0, none⟩ u0).setCell ⟨b, 1, none⟩ u1).setCell ⟨b, 2, none⟩ u2).setCell ⟨b, 3, none⟩ u3).setCell ⟨b, 4, none⟩ u4).setCell ⟨b, 5, none⟩ u5).heap[b]? = some (.cells #[u0, u1, u2, u3, u4, u5, .slice none 0 0, .slice none 0 0] T (0, 0)) := heap_setCell_same _ _ 5 _ _ u5 h4
  have h6 : (((((((W.setCell ⟨b, 0, none⟩ u0).setCell ⟨b, 1, none⟩ u1).setCell ⟨b, 2, none⟩ u2).setCell ⟨b, 3, none⟩ u3).setCell ⟨b, 4, none⟩ u4).setCell ⟨b, 5, none⟩ u5).setCell ⟨b, 6, none⟩ u6).heap[b]? = some (.cells #[u0, u1, u2, u3, u4, u5, u6, .slice none 0 0] T (0, 0)) := heap_setCell_same _ _ 6 _ _ u6 h5
  have h7 : ((((((((W.setCell ⟨b, 0, none⟩ u0).setCell ⟨b, 1, none⟩ u1).setCell ⟨b, 2, none⟩ u2).setCell ⟨b, 3, none⟩ u3).setCell ⟨b, 4, none⟩ u4).setCell ⟨b, 5, none⟩ u5).setCell ⟨b, 6, none⟩ u6).setCell ⟨b, 7, none⟩ u7).heap[b]? = some (.cells #[u0, u1, u2, u3, u4, u5, u6, u7] T (0, 0)) := heap_setCell_same _ _ 7 _ _ u7 h6
  exact h7
theorem heap_set8 {W : World} {b k : Nat} (h : k ≠ b) (u0 u1 u2 u3 u4 u5 u6 u7 : Value) : (set8 W b u0 u1 u2 u3 u4 u5 u6 u7).heap[k]? = W.heap[k]? := by
  unfold set8
  rw [heap_setCell_other _ _ _ _ (by simpa using h), heap_setCell_other _ _ _ _ (by simpa using h), heap_setCell_other _ _ _ _ (by simpa using h), heap_setCell_other _ _ _ _ (by simpa using h), heap_setCell_other _ _ _ _ (by simpa using h), heap_setCell_other _ _ _ _ (by simpa using h), heap_setCell_other _ _ _ _ (by simpa using h), heap_setCell_other _ _ _ _ (by simpa using h)]
/-- The table's block laid ahead, filled by eight stores. -/
theorem PkA.store {w W : World} {D : Array Value} {gt : Nat} {width : Int} {ga gb gc pa pb pc : Nat} {A B C : List Int} (below : Below w.heap.size w W) (box : W.heap[w.heap.size]? = some (.cells D 30 (0, 0))) (res : W.heap[w.heap.size + 1]? = some (.cells zeroA 27 (0, 0)))
    (row : W.heap[gt]? = some (.cells zeroA 27 (0, 0))) (o1 : w.heap.size + 1 < gt)
    (oa : Owns (w.heap.size + 1 + 1) W (.slice (some ⟨ga, 0, none⟩) A.length pa) A) (ob : Owns (w.heap.size + 1 + 1) W (.slice (some ⟨gb, 0, none⟩) B.length pb) B) (oc : Owns (w.heap.size + 1 + 1) W (.slice (some ⟨gc, 0, none⟩) C.length pc) C)
    (h : ga ≠ gt ∧ gb ≠ gt ∧ gc ≠ gt ∧ ga ≠ gb ∧ ga ≠ gc ∧ gb ≠ gc) :
    PkA w D gt width (set8 W gt (.slice (some ⟨ga, 0, none⟩) A.length pa) (.int .i64 width) (.slice none 0 0) (.slice none 0 0) (.slice (some ⟨gb, 0, none⟩) B.length pb) (.slice (some ⟨gc, 0, none⟩) C.length pc) (.slice none 0 0) (.slice none 0 0)) (tri (.slice (some ⟨ga, 0, none⟩) A.length pa) (.slice (some ⟨gb, 0, none⟩) B.length pb) (.slice (some ⟨gc, 0, none⟩) C.length pc)) (pkL A B C ⟨[], [], [], []⟩ []) := by
  have e : ∀ g n p k, (Value.slice (some ⟨g, 0, none⟩) n p).ownBlock = some k → k = g := fun g n p k hk => by
    simp [Value.ownBlock] at hk; exact hk.symm
  refine PkA.of (below_set8 below (by omega) _ _ _ _ _ _ _ _) ((heap_set8 (by omega) _ _ _ _ _ _ _ _).trans box) ((heap_set8 (by omega) _ _ _ _ _ _ _ _).trans res) (row_set8 row _ _ _ _ _ _ _ _) o1 (owns_keep oa fun b hb => heap_set8 ?_ _ _ _ _ _ _ _ _) (owns_keep ob fun b hb => heap_set8 ?_ _ _ _ _ _ _ _ _) (owns_keep oc fun b hb => heap_set8 ?_ _ _ _ _ _ _ _ _) h <;>
    (have := e _ _ _ _ hb; omega)

theorem PkA.start {w W W2 W3 : World} {D : Array Value} {gt p n : Nat} {width : Int} {v : Nat → Value} {l : Nat → List Int} (P : PkA w D gt width W v l) (hp : W.heap.size < p) (hT : W2.heap[W.heap.size]? = some (.cells (wdRow 943 (fun _ => 0)) 56 (0, 0))) (hL : W2.heap[p]? = some (.cells (lyA W.heap.size (fun _ => .slice none 0 0)) 50 (0, 0))) (hb2 : Below W.heap.size W W2)
    (hC : W3.heap[W2.heap.size]? = some (.cells (fnRow n (fun _ => 0)) 3 (0, 0))) (hb3 : Below W2.heap.size W2 W3) : PkI w D gt p W.heap.size W2.heap.size n (fun _ => 0) width W3 v l := by
  have hb : Below W.heap.size W W3 := below_step hb2 hb2.size hb3
  have lp := row_lt hL
  have lg := row_lt P.row
  have lr := row_lt P.res
  have z2 := hb2.size
  have o1 := P.o1
  have e : tw5 v = fun i => if i < 2 then .slice none 0 0 else v (5 + i) := by
    funext i
    unfold tw5
    split
    · rename_i hi; exact P.nil5 i hi
    · rfl
  have hL' : lyA W.heap.size (tw5 v) = lyA W.heap.size (fun _ => .slice none 0 0) := by
    unfold lyA
    rw [e]
    rfl
  refine ⟨below_step P.below P.below.size hb, row_below P.box hb, row_below P.res hb, row_below P.row hb, by rw [hL']; exact row_below hL hb3, row_below hT hb3, hC, P.fam.below hb, fun i hi b hbb => ?_, fun _ => by decide, o1, by omega, by omega, by omega, by omega, by omega, by omega, by omega, by omega, by omega⟩
  have q := (owns_block (P.fam.own i hi) hbb).2
  exact ⟨P.far i hi b hbb, by omega, by omega, by omega⟩
/-- One state laid, over the whole state. -/
theorem place_pki {w W : World} {D : Array Value} {gt p gT gC n : Nat} {T : Nat → Nat} {width : Int} {v : Nat → Value} {c t f : List Int} {L : Lay} (S : PkI w D gt p gT gC n T width W v (pkL c t f L [])) (nx : List Int) (wd k b o rcap : Nat) (hbl : b < w.heap.size)
    (Hc : Hid (∀ j, j < wd → w.cell? ⟨b, o + j, none⟩ = some (.int .i64 ((rowF nx wd k).getD j 0)))) (hrl : (rowF nx wd k).length = wd) (hwd : wd ≤ 256) (HLen : Hid (L.next.length = L.chk.length ∧ L.chk.length ≤ 60000)) (hbits : Hid (∀ q, bitAt T q = !freeAt L.chk q)) (hBr : Hid (Bruijn w)) (h0 : 0 < w.heap.size) (HL : Hid (layN nx wd k = some L)) :
    Calls Tryd.prog 22 #[.pointer (some ⟨p, 0, none⟩), .int .i64 k, .slice (some ⟨b, o, none⟩) wd rcap, .int .i64 (bestF (rowF nx wd k))] W fun e w' =>
      (e = .returned (.tuple #[.int .i64 0, .bool false]) ∧ Hid (layN nx wd (k + 1) = none) ∧ PkI w D gt p gT gC n T width w' v (pkL c t f L [])) ∨
      (∃ (kk : Nat) (N' C' : List Int) (T2 : Nat → Nat) (v2 : Nat → Value), e = .returned (.tuple #[.int .i64 kk, .bool true]) ∧ Hid (layN nx wd (k + 1) = some ⟨L.base ++ [(kk : Int)], L.dflt ++ [bestF (rowF nx wd k)], N', C'⟩) ∧ PkI w D gt p gT gC n T2 width w' v2 (pkL c t f ⟨L.base, L.dflt, N', C'⟩ []) ∧ Hid (N'.length = C'.length ∧ C'.length ≤ 60000) ∧ Hid (∀ q, bitAt T2 q = !freeAt C' q)) := by
  have hz := S.below.size
  have cP := place_ok (w.heap.size + 1) p gT T (tw5 v) L.next L.chk k b o rcap (rowF nx wd k) (bestF (rowF nx wd k)) W S.ly (by omega) (by omega) (fun j hj => (S.below.cell (by exact hbl)).trans (Hc.out j (by omega))) (by omega) HLen.out.2 HLen.out.1 hbits (fun i hi => (S.below.cell (by exact h0)).trans (hBr.out i hi))
  have HF : layN nx wd (k + 1) = layF nx wd k L := by show (layN nx wd k).bind _ = _; rw [HL.out]; rfl
  have HRow : layF nx wd k L = if oddF (rowF nx wd k) (bestF (rowF nx wd k)) wd = [] then some ⟨L.base ++ [0], L.dflt ++ [bestF (rowF nx wd k)], L.next, L.chk⟩ else if (oddF (rowF nx wd k) (bestF (rowF nx wd k)) wd).all (fun c => decide (fitF L.chk (oddF (rowF nx wd k) (bestF (rowF nx wd k)) wd) + c < 60000)) then some ⟨L.base ++ [(fitF L.chk (oddF (rowF nx wd k) (bestF (rowF nx wd k)) wd) : Int)], L.dflt ++ [bestF (rowF nx wd k)], layAll 0 L.next (fitF L.chk (oddF (rowF nx wd k) (bestF (rowF nx wd k)) wd)) (fun c => (rowF nx wd k).getD c 0) (oddF (rowF nx wd k) (bestF (rowF nx wd k)) wd), layAll (-1) L.chk (fitF L.chk (oddF (rowF nx wd k) (bestF (rowF nx wd k)) wd)) (fun _ => (k : Int)) (oddF (rowF nx wd k) (bestF (rowF nx wd k)) wd)⟩ else none := rfl
  unfold PlAns at cP
  generalize bestF (rowF nx wd k) = dv at *
  generalize rowF nx wd k = row at *
  rw [hrl] at cP
  refine cP.mono ?_
  rintro e w' (⟨hod, rfl, hb⟩ | ⟨hod, kk, hk, ⟨hall, rfl, hb⟩ | ⟨hall, rfl, T', v', L', K', hbt⟩⟩)
  · refine .inr ⟨0, L.next, L.chk, T, v, rfl, ?_, S.grow hb, HLen, hbits⟩
    show _ = _
    rw [HF, HRow, if_pos hod]
    rfl
  · refine .inl ⟨rfl, ?_, S.grow hb⟩
    show _ = _
    rw [HF, HRow, if_neg hod, hk, hall]
    rfl
  · refine .inr ⟨kk, layAll 0 L.next kk (fun c => row.getD c 0) (oddF row dv wd), layAll (-1) L.chk kk (fun _ => (k : Int)) (oddF row dv wd), T', upd56 v v', rfl, ?_, ?_, ⟨layAll_lens _ _ _ _ _ _ _ _ HLen.out.1, layAll_lt _ _ _ _ _ _ HLen.out.2 ?_⟩, hbt⟩
    · show _ = _
      rw [HF, HRow, if_neg hod, hk, hall]
      rfl
    · have h := S.placed L' K'
      rw [pkL_upd5, pkL_upd6] at h
      exact h
    · intro c hc
      rw [List.all_eq_true] at hall
      simpa using hall c hc
/-- The table whole. -/
structure PkE (w : World) (gt : Nat) (width : Int) (W : World) (v : Nat → Value) (l : Nat → List Int) : Prop where
  below : Below w.heap.size w W
  res : W.heap[w.heap.size + 1]? = some (.cells zeroA 27 (0, 0))
  row : W.heap[gt]? = some (.cells (rowA width v) 27 (0, 0))
  fam : Fam (w.heap.size + 1) 7 W v l
  o1 : w.heap.size + 1 < gt
theorem PkE.drew {w W : World} {gt : Nat} {width : Int} {v : Nat → Value} {l : Nat → List Int} (h : PkE w gt width W v l) : PkE w gt width W.drew v l :=
  have hb : Below W.heap.size W W.drew := (Below.refl _ _).drew
  ⟨below_step h.below h.below.size hb, row_below h.res hb, row_below h.row hb, h.fam.below hb, h.o1⟩
theorem PkI.done {w W : World} {D : Array Value} {gt p gT gC n : Nat} {T : Nat → Nat} {width : Int} {v : Nat → Value} {l : Nat → List Int} (h : PkI w D gt p gT gC n T width W v l) : PkE w gt width ((W.setCell ⟨gt, 6, none⟩ (v 5)).setCell ⟨gt, 7, none⟩ (v 6)) v l := by
  have o1 := h.o1
  have h6 := heap_setCell_same _ _ 6 _ _ (v 5) h.row
  have h7 := heap_setCell_same _ _ 7 _ _ (v 6) h6
  have e1 : (rowA width (tvw v)).setIfInBounds 6 (v 5) = rowA width (upd (tvw v) 5 (v 5)) := rowA_set width (tvw v) 5 (by omega) (v 5)
  have e2 : (rowA width (upd (tvw v) 5 (v 5))).setIfInBounds 7 (v 6) = rowA width (upd (upd (tvw v) 5 (v 5)) 6 (v 6)) := rowA_set width _ 6 (by omega) (v 6)
  have e3 : rowA width (upd (upd (tvw v) 5 (v 5)) 6 (v 6)) = rowA width v := rfl
  rw [e1, e2, e3] at h7
  refine ⟨(h.below.setCell (by simp; omega) _).setCell (by simp; omega) _, ?_, h7, ⟨fun i hi => owns_keep (h.fam.own i hi) fun b hb => ?_, h.fam.apart⟩, o1⟩
  · rw [heap_setCell_other _ _ _ _ (by simp; omega), heap_setCell_other _ _ _ _ (by simp; omega)]
    exact h.res
  · have := (h.far i hi b hb).1
    rw [heap_setCell_other _ _ _ _ (by simpa using this), heap_setCell_other _ _ _ _ (by simpa using this)]
/-- The table's block laid behind the copies. -/
theorem PkA.fresh {w W : World} {D : Array Value} {width : Int} {ga gb gc pa pb pc : Nat} {A B C : List Int} (below : Below w.heap.size w W) (box : W.heap[w.heap.size]? = some (.cells D 30 (0, 0))) (res : W.heap[w.heap.size + 1]? = some (.cells zeroA 27 (0, 0)))
    (oa : Owns (w.heap.size + 1 + 1) W (.slice (some ⟨ga, 0, none⟩) A.length pa) A) (ob : Owns (w.heap.size + 1 + 1) W (.slice (some ⟨gb, 0, none⟩) B.length pb) B) (oc : Owns (w.heap.size + 1 + 1) W (.slice (some ⟨gc, 0, none⟩) C.length pc) C)
    (h : ga ≠ gb ∧ ga ≠ gc ∧ gb ≠ gc) :
    PkA w D W.heap.size width (W.alloc (.cells #[.slice (some ⟨ga, 0, none⟩) A.length pa, .int .i64 width, .slice none 0 0, .slice none 0 0, .slice (some ⟨gb, 0, none⟩) B.length pb, .slice (some ⟨gc, 0, none⟩) C.length pc, .slice none 0 0, .slice none 0 0] 27)) (tri (.slice (some ⟨ga, 0, none⟩) A.length pa) (.slice (some ⟨gb, 0, none⟩) B.length pb) (.slice (some ⟨gc, 0, none⟩) C.length pc)) (pkL A B C ⟨[], [], [], []⟩ []) := by
  have la := (owns_block oa (b := ga) (by simp [Value.ownBlock])).2
  have lb := (owns_block ob (b := gb) (by simp [Value.ownBlock])).2
  have lc := (owns_block oc (b := gc) (by simp [Value.ownBlock])).2
  have lr := row_lt res
  have hb : Below W.heap.size W (W.alloc (.cells #[.slice (some ⟨ga, 0, none⟩) A.length pa, .int .i64 width, .slice none 0 0, .slice none 0 0, .slice (some ⟨gb, 0, none⟩) B.length pb, .slice (some ⟨gc, 0, none⟩) C.length pc, .slice none 0 0, .slice none 0 0] 27)) := (Below.refl _ _).alloc (Nat.le_refl _) _
  exact PkA.of (below_step below below.size hb) (row_below box hb) (row_below res hb) (heap_alloc_new _ _) lr (owns_since oa (Nat.le_refl _) hb) (owns_since ob (Nat.le_refl _) hb) (owns_since oc (Nat.le_refl _) hb) ⟨by omega, by omega, by omega, h.1, h.2.1, h.2.2⟩
/-- Behind the three copies. -/
theorem three_copies {w w1 x1 wa x2 wb x3 wc : World} {D : Array Value} {ga gb gc pa pb pc n1 n2 n3 : Nat} {A B C : List Int} (hb2 : Below w.heap.size w w1) (q1 : w1.heap[w.heap.size]? = some (.cells D 30 (0, 0))) (r1 : w1.heap[w.heap.size + 1]? = some (.cells zeroA 27 (0, 0)))
    (h1 : Below w1.heap.size w1 x1) (OA : Owns x1.heap.size wa (.slice (some ⟨ga, 0, none⟩) A.length pa) A) (Ba : Below x1.heap.size x1 wa) (h2 : Below wa.heap.size wa x2) (OB : Owns x2.heap.size wb (.slice (some ⟨gb, 0, none⟩) B.length pb) B) (Bb : Below x2.heap.size x2 wb) (h3 : Below wb.heap.size wb x3) (OC : Owns x3.heap.size wc (.slice (some ⟨gc, 0, none⟩) C.length pc) C) (Bc : Below x3.heap.size x3 wc)
    (e1 : x1.heap.size = n1) (e2 : x2.heap.size = n2) (e3 : x3.heap.size = n3) :
    (Below w.heap.size w wc ∧ wc.heap[w.heap.size]? = some (.cells D 30 (0, 0)) ∧ wc.heap[w.heap.size + 1]? = some (.cells zeroA 27 (0, 0))) ∧ (Owns (w.heap.size + 1 + 1) wc (.slice (some ⟨ga, 0, none⟩) A.length pa) A ∧ Owns (w.heap.size + 1 + 1) wc (.slice (some ⟨gb, 0, none⟩) B.length pb) B ∧ Owns (w.heap.size + 1 + 1) wc (.slice (some ⟨gc, 0, none⟩) C.length pc) C) ∧
    (w.heap.size + 1 < w1.heap.size ∧ w1.heap.size ≤ n1 ∧ n1 ≤ ga ∧ ga < wa.heap.size ∧ wa.heap.size ≤ n2 ∧ n2 ≤ gb ∧ gb < wb.heap.size ∧ wb.heap.size ≤ n3 ∧ n3 ≤ gc ∧ gc < wc.heap.size) := by
  have la := owns_block OA (b := ga) (by simp [Value.ownBlock])
  have lb := owns_block OB (b := gb) (by simp [Value.ownBlock])
  have lc := owns_block OC (b := gc) (by simp [Value.ownBlock])
  have lr := row_lt r1
  have z1 := h1.size
  have z2 := h2.size
  have z3 := h3.size
  have k1 := below_step h1 h1.size Ba
  have k2 := below_step h2 h2.size Bb
  have k3 := below_step h3 h3.size Bc
  have k12 : Below w1.heap.size w1 wb := below_step k1 k1.size k2
  have k13 : Below w1.heap.size w1 wc := below_step k12 k12.size k3
  have k23 : Below wa.heap.size wa wc := below_step k2 k2.size k3
  exact ⟨⟨below_step hb2 hb2.size k13, row_below q1 k13, row_below r1 k13⟩, ⟨owns_since OA (by omega) k23, owns_since OB (by omega) k3, owns_since OC (by omega) (Below.refl _ _)⟩, by omega⟩
end Go.Proofs.YtplhghhfdabccaaDoor
