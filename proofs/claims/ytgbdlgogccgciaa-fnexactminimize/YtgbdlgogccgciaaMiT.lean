import Derived.Test.YtgbdlgogccgciaaMiS
import Derived.Test.YtgbdlgogccgciaaLstC
import Derived.Deep.LoopGhost
namespace Go.Proofs.Ytgbdlgogccgciaa
open Go.RowKit
attribute [local go_sem ↓] Go.wp_at_zero Go.wp_at_succ

theorem orU (x y : Nat) (hx : x < 18446744073709551616) (hy : y < 18446744073709551616) : bits BinOp.or IntKind.u64 (x : Int) (y : Int) = ((x ||| y : Nat) : Int) := by
  have h1 : (BitVec.ofInt 64 (x : Int) ||| BitVec.ofInt 64 (y : Int)).toNat = x ||| y := by
    rw [BitVec.ofInt_natCast, BitVec.ofInt_natCast, BitVec.toNat_or, BitVec.toNat_ofNat, BitVec.toNat_ofNat, Nat.mod_eq_of_lt (by omega), Nat.mod_eq_of_lt (by omega)]
  have h2 : x ||| y < 18446744073709551616 := Nat.or_lt_two_pow (n := 64) hx hy
  show IntKind.u64.wrap ((BitVec.ofInt 64 (x : Int) ||| BitVec.ofInt 64 (y : Int)).toNat : Int) = _
  rw [h1]
  simp [IntKind.wrap, IntKind.bits, IntKind.signed]
  omega
theorem wrapU (x : Nat) : IntKind.u64.wrap (x : Int) = ((x % 18446744073709551616 : Nat) : Int) := by
  simp [IntKind.wrap, IntKind.bits, IntKind.signed]
/- alikeStates. -/
/-- What it answers. -/
def AlR (w : World) (d : DfaD) (e : Ending) (w' : World) : Prop := ∃ (v : Value) (o : List Nat), e = .returned v ∧ Owns w.heap.size w' v (intsN o) ∧ o.length = d.tag.length ∧ (∀ s, s < d.tag.length → o.getD s 0 < d.tag.length) ∧ (∀ s t, s < d.tag.length → t < d.tag.length → (o.getD s 0 = o.getD t 0 ↔ Alike (stN d) (anN d) s t)) ∧ Below w.heap.size w w'
/-- Where its loop stands. -/
structure AlT (w : World) (d : DfaD) (gt p B gI : Nat) (vA : Nat → Value) (A : Nat → List (Nat × Nat)) (gT k m gmv cm : Nat) (mi : Nat → Nat) (v : Nat → Value) (l : Nat → List Int) (N : Nat) (o wk : List Nat) (mem : Nat → List Nat) (W : World) : Prop where
  pt : PtS gt W p (.slice (some ⟨gmv, 0, none⟩) m cm) m mi v l N o wk mem
  pm : PtM d.tag.length m o wk mem
  hop : Hop d.tag.length (· ∈ usedF d (wdN d)) (nxN d) (fun s => o.getD s 0) (· ∈ wk)
  al : ∀ s t, s < d.tag.length → t < d.tag.length → Alike (stN d) (anN d) s t → o.getD s 0 = o.getD t 0
  an : ∀ s t, s < d.tag.length → t < d.tag.length → o.getD s 0 = o.getD t 0 → anN d s = anN d t
  ar : ArS B W gI d.tag.length vA A
  tr : W.heap[gT]? = some (.cells (trRow d.tag.length (fun _ => kz)) 68 (0, 0))
  be : Below w.heap.size w W
  ke : k = 2 * (d.tag.length - m) + wk.length
  kl : k ≤ 3 * d.tag.length
/-- Where its inner loops stand: ps the arrows seen, xs touched. -/
structure AlX (w : World) (gt p m gmv cm : Nat) (mi : Nat → Nat) (v4 : Nat → Value) (l4 : Nat → List Int) (N : Nat) (o wk : List Nat) (mem : Nat → List Nat) (B gI n : Nat) (vA : Nat → Value) (A : Nat → List (Nat × Nat)) (gT : Nat) (ps : List (Nat × Nat)) (xs : List Nat) (T : Nat → Nat → Nat) (gTo cTo : Nat) (v : Nat → Value) (l : Nat → List Int) (W : World) : Prop where
  st : AlS w gt p m gmv cm mi v l N o wk mem B gI n vA A gT T W
  vt : v N = .slice (some ⟨gTo, 0, none⟩) xs.length cTo
  lt : l N = intsN xs
  old : ∀ i, i < N → v i = v4 i ∧ l i = l4 i
  ti : TrI n ps xs T
section
variable {w : World} {gt p m gmv cm : Nat} {mi : Nat → Nat} {v4 v : Nat → Value} {l4 l : Nat → List Int} {N : Nat} {o wk : List Nat} {mem : Nat → List Nat} {B gI n : Nat} {vA : Nat → Value} {A : Nat → List (Nat × Nat)} {gT : Nat} {ps : List (Nat × Nat)} {xs : List Nat} {T : Nat → Nat → Nat} {gTo cTo : Nat} {W W' : World}
theorem AlX.on (h : AlX w gt p m gmv cm mi v4 l4 N o wk mem B gI n vA A gT ps xs T gTo cTo v l W) (hb : Below W.heap.size W W') : AlX w gt p m gmv cm mi v4 l4 N o wk mem B gI n vA A gT ps xs T gTo cTo v l W' := ⟨h.st.on hb, h.vt, h.lt, h.old, h.ti⟩
theorem AlX.congr (h : AlX w gt p m gmv cm mi v4 l4 N o wk mem B gI n vA A gT ps xs T gTo cTo v l W) {ps' : List (Nat × Nat)} (e : ps = ps') : AlX w gt p m gmv cm mi v4 l4 N o wk mem B gI n vA A gT ps' xs T gTo cTo v l W := e ▸ h
theorem AlX.seen (h : AlX w gt p m gmv cm mi v4 l4 N o wk mem B gI n vA A gT ps xs T gTo cTo v l W) {f c x : Nat} (hf : f < n) (hc : c < 256) (hx : f ∈ xs) (hb : Below W.heap.size W W') (he : x = T f (c / 64) ||| 2 ^ (c % 64)) : AlX w gt p m gmv cm mi v4 l4 N o wk mem B gI n vA A gT (ps ++ [(f, c)]) xs (addTs T f c) gTo cTo v l (W'.setCell ⟨gT, f * 5 + (c / 64 + 1), none⟩ (.int .u64 (x : Int))) := by
  have := h.ti.add hf hc
  unfold addX at this
  rw [if_pos hx] at this
  exact ⟨(h.st.on hb).mark hf hc he, h.vt, h.lt, h.old, this⟩
theorem AlX.new (h : AlX w gt p m gmv cm mi v4 l4 N o wk mem B gI n vA A gT ps xs T gTo cTo v l W) {f c x g5 c5 : Nat} {W5 : World} (hf : f < n) (hc : c < 256) (hx : f ∉ xs) (hF : Fam gt (N + 1) W5 (upd v N (.slice (some ⟨g5, 0, none⟩) (xs.length + 1) c5)) (updL l N (intsN xs ++ [(f : Int)]))) (hg : W.grownBy W5 (v N).ownBlock) (hb : Below W5.heap.size W5 W') (he : x = T f (c / 64) ||| 2 ^ (c % 64)) :
    AlX w gt p m gmv cm mi v4 l4 N o wk mem B gI n vA A gT (ps ++ [(f, c)]) (xs ++ [f]) (addTs T f c) g5 c5 (upd v N (.slice (some ⟨g5, 0, none⟩) (xs.length + 1) c5)) (updL l N (intsN xs ++ [(f : Int)])) (W'.setCell ⟨gT, f * 5 + (c / 64 + 1), none⟩ (.int .u64 (x : Int))) := by
  have := h.ti.add hf hc
  unfold addX at this
  rw [if_neg hx] at this
  refine ⟨((h.st.touch hF hg).on hb).mark hf hc he, by rw [upd_same]; simp, by rw [updL_same]; simp [intsN], fun i hi => ?_, this⟩
  rw [upd_ne _ _ (by omega), updL_ne _ _ (by omega)]
  exact h.old i hi
theorem AlT.pop {d : DfaD} {k gw cw wl nq : Nat} (h : AlT w d gt p B gI vA A gT k m gmv cm mi v l N o wk mem W) (hv : v 1 = .slice (some ⟨gw, 0, none⟩) wk.length cw) (hw : wl ≤ wk.length) (h1 : w.heap.size ≤ gt) (h2 : w.heap.size ≤ gT) :
    AlX w gt p m gmv cm mi (upd (upd v 1 (.slice (some ⟨gw, 0, none⟩) wl cw)) N (.slice (some ⟨W.heap.size, 0, none⟩) 0 0)) (updL (updL l 1 (intsN (wk.take wl))) N []) N o (wk.take wl) mem B gI d.tag.length vA A gT [] [] (fun _ _ => 0) W.heap.size 0 (upd (upd v 1 (.slice (some ⟨gw, 0, none⟩) wl cw)) N (.slice (some ⟨W.heap.size, 0, none⟩) 0 0)) (updL (updL l 1 (intsN (wk.take wl))) N []) (((W.drewN nq).setCell ⟨p, 2, none⟩ (.slice (some ⟨gw, 0, none⟩) wl cw)).alloc (.cells #[] 3)) := by
  have hb : Below W.heap.size W (W.drewN nq) := below_drewN (Below.refl _ _) nq
  have hg := grown_putM (W.drewN nq) p 2 (.slice (some ⟨gw, 0, none⟩) wl cw)
  have hP0 := h.pt.on hb
  have hP := (hP0.pop hv hw).new
  have e : ((W.drewN nq).setCell ⟨p, 2, none⟩ (.slice (some ⟨gw, 0, none⟩) wl cw)).heap.size = W.heap.size := by simp [World.setCell]
  rw [e] at hP
  have hbx := row_lt hP0.box
  have hpg := h.pt.pge
  have hb2 : Below ((W.drewN nq).setCell ⟨p, 2, none⟩ (.slice (some ⟨gw, 0, none⟩) wl cw)).heap.size ((W.drewN nq).setCell ⟨p, 2, none⟩ (.slice (some ⟨gw, 0, none⟩) wl cw)) (((W.drewN nq).setCell ⟨p, 2, none⟩ (.slice (some ⟨gw, 0, none⟩) wl cw)).alloc (.cells #[] 3)) := (Below.refl _ _).alloc (Nat.le_refl _) _
  refine ⟨⟨hP, fun x hx => (h.pt.idx x hx).2, h.pt.two, ((h.ar.below hb).far hg (fun q e => by cases e; exact ⟨_, _, hP0.box, by decide, by decide⟩)).below hb2, ?_, ?_, h1, h2⟩, upd_same _ _ _, by rw [updL_same]; rfl, fun _ _ => ⟨rfl, rfl⟩, TrI.start _⟩
  · refine row_below ?_ hb2
    refine (hg.block gT (row_lt h.tr) (fun e => ?_)).trans h.tr
    have e2 : gT = p := Option.some.inj e
    have := h.tr
    rw [e2, h.pt.box] at this
    exact absurd (cells_typeM this) (by decide)
  · have hB := h.be.trans (hb.mono h.be.size)
    have hB2 := hB.setCell (p := ⟨p, 2, none⟩) (by show w.heap.size ≤ p; omega) (.slice (some ⟨gw, 0, none⟩) wl cw)
    exact hB2.alloc hB2.size _
end
theorem ArS.arrow {B gI n : Nat} {W : World} {v : Nat → Value} {A : Nat → List (Nat × Nat)} (S : ArS B W gI n v A) {s a : Nat} (hs : s < n) (ha : a < (A s).length) {pa : Option Addr} {pc : Nat} (hv : v s = .slice pa (A s).length pc) {f c : Nat} (hfc : (A s).getD a (0, 0) = (f, c)) : ∃ g, pa = some ⟨g, 0, none⟩ ∧ W.cell? ⟨g, a * 2, none⟩ = some (.int .i64 (f : Int)) ∧ W.cell? ⟨g, a * 2 + 1, none⟩ = some (.int .i64 (c : Int)) := by
  have h := S.rows s hs
  rw [hv] at h
  rcases h.2 with ⟨h0, hl⟩ | ⟨g, cap, cur, hvv, _⟩
  · omega
  · cases hvv
    obtain ⟨h1, h2⟩ := pairL_get (A s) a ha
    rw [hfc] at h1 h2
    exact ⟨g, rfl, by rw [h.cellAt (a * 2) (by omega)]; exact h1, by rw [h.cellAt (a * 2 + 1) (by omega)]; exact h2⟩
theorem tr_word {W : World} {g n : Nat} {T : Nat → Nat → Nat} (h : W.heap[g]? = some (.cells (trRow n (fun s => trW (T s))) 68 (0, 0))) {f q : Nat} (hf : f < n) (hq : q < 4) : W.cell? ⟨g, f * 5 + (q + 1), none⟩ = some (.int .u64 (T f q : Int)) ∧ W.frozen? ⟨g, f * 5 + (q + 1), none⟩ = false := by
  obtain ⟨_, t1, t2, t3, t4⟩ := tr_cells h hf
  refine ⟨?_, frozen_of_row _ _ _ _ _ h⟩
  have : q = 0 ∨ q = 1 ∨ q = 2 ∨ q = 3 := by omega
  rcases this with k | k | k | k <;> subst k
  · exact t1
  · exact t2
  · exact t3
  · exact t4
theorem orW (x r : Nat) (hx : x < 18446744073709551616) (hr : r < 64) : bits BinOp.or IntKind.u64 (x : Int) (IntKind.u64.wrap (2 ^ r)) = ((x ||| 2 ^ r : Nat) : Int) := by
  have h2 : 2 ^ r < 18446744073709551616 := Nat.pow_lt_pow_right (a := 2) (n := 64) (by omega) hr
  rw [show (2 : Int) ^ r = ((2 ^ r : Nat) : Int) by simp, wrapU, Nat.mod_eq_of_lt h2, orU _ _ hx h2]
theorem take_snocP {xs : List (Nat × Nat)} {j : Nat} (h : j < xs.length) {x : Nat × Nat} (hx : xs.getD j (0, 0) = x) : xs.take (j + 1) = xs.take j ++ [x] := by
  rw [List.take_succ_eq_append_getElem h, ← hx, List.getD_eq_getElem?_getD, List.getElem?_eq_getElem h]
  rfl
theorem getD_memP {l : List (Nat × Nat)} {i : Nat} (h : i < l.length) {x : Nat × Nat} (hx : l.getD i (0, 0) = x) : x ∈ l := by rw [← hx, List.getD_eq_getElem?_getD, List.getElem?_eq_getElem h]; exact List.getElem_mem _
theorem flat_snoc (A : Nat → List (Nat × Nat)) (xs : List Nat) (s : Nat) : xs.flatMap A ++ A s = (xs ++ [s]).flatMap A := by simp
theorem PtM.fewer {n m : Nat} {o wk wk' : List Nat} {mem : Nat → List Nat} (h : PtM n m o wk mem) (hw : ∀ b ∈ wk', b ∈ wk) : PtM n m o wk' mem := ⟨h.ln, h.lt, h.mm, h.nd, h.ne, fun b hb => h.wl b (hw b hb)⟩
theorem PtS.traits {gt p m gmv cm : Nat} {mi : Nat → Nat} {v : Nat → Value} {l : Nat → List Int} {N : Nat} {o wk : List Nat} {mem : Nat → List Nat} {W W' : World} (h : PtS gt W p (.slice (some ⟨gmv, 0, none⟩) m cm) m mi v l N o wk mem) {gT : Nat} {cs : Array Value} (ht : W.heap[gT]? = some (.cells cs 68 (0, 0))) (hg : W.grownBy W' (some gT)) : PtS gt W' p (.slice (some ⟨gmv, 0, none⟩) m cm) m mi v l N o wk mem := by
  refine h.far hg (fun cs e => absurd (cells_typeM (ht.symm.trans e)) (by decide)) (fun cs e => absurd (cells_typeM (ht.symm.trans e)) (by decide)) (fun e => ?_)
  simp [Value.ownBlock] at e
  obtain ⟨cur, hc⟩ := own_slices h.out
  rw [e, ht] at hc
  exact absurd (cells_typeM hc) (by decide)
/-- traits of the first i touched made empty again. -/
noncomputable def wipe (xs : List Nat) (T : Nat → Nat → Nat) (i : Nat) : Nat → Tr := fun s => if s ∈ xs.take i then kz else trW (T s)
theorem wipe_zero (xs : List Nat) (T : Nat → Nat → Nat) : wipe xs T 0 = fun s => trW (T s) := by funext s; simp [wipe]
theorem wipe_succ {xs : List Nat} (T : Nat → Nat → Nat) {i s0 : Nat} (h : xs.take (i + 1) = xs.take i ++ [s0]) : updT (wipe xs T i) s0 kz = wipe xs T (i + 1) := by
  funext s
  unfold updT wipe
  rw [h]
  by_cases e : s = s0
  · subst e; simp
  · simp [e]
theorem wipe_all {n : Nat} {ps : List (Nat × Nat)} {xs : List Nat} {T : Nat → Nat → Nat} (h : TrI n ps xs T) : wipe xs T xs.length = fun _ => kz := by
  funext s
  unfold wipe
  rw [List.take_length]
  by_cases e : s ∈ xs
  · rw [if_pos e]
  · rw [if_neg e]; exact (h.zero s).2 e
theorem Try.buildZ (w : World) : (Instr.build 68 #[]).run Try.prog w = .ok (.agg #[.int .u64 0, .int .u64 0, .int .u64 0, .int .u64 0, .int .u64 0]) w := run_build w 68 _ _ (by kernel_rfl)
attribute [local go_sem] Try.buildZ
theorem Try.eqlZ (T : Nat → Nat) (b : Bool) (hb : decide (trW T = kz) = b) (w : World) : (binOp .eql 68 (.agg #[.int .u64 0, .int .u64 (T 0 : Int), .int .u64 (T 1 : Int), .int .u64 (T 2 : Int), .int .u64 (T 3 : Int)]) (.agg #[.int .u64 0, .int .u64 0, .int .u64 0, .int .u64 0, .int .u64 0])).run Try.prog w = .ok (.bool b) w := by
  have h := Try.eqlTr 0 (T 0) (T 1) (T 2) (T 3) 0 0 0 0 0 w
  rw [← hb]
  exact h
theorem alike_start {d : DfaD} {o wk : List Nat} (hf : DfaFine d) (h2 : ∀ s, s < d.tag.length → o.getD s 0 ∈ wk) : Hop d.tag.length (· ∈ usedF d (wdN d)) (nxN d) (fun s => o.getD s 0) (· ∈ wk) :=
  fun _ _ _ hs _ hk _ _ => .inl (h2 _ (hf.nx hs (usedF_mem.1 hk).1).2)

end Go.Proofs.Ytgbdlgogccgciaa
