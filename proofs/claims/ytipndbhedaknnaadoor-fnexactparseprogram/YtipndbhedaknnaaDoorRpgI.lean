import Derived.Test.YtipndbhedaknnaaDoorPrdM
import Derived.Test.YtipndbhedaknnaaDoorSpQ
import Derived.Test.YtipndbhedaknnaaDoorMapI
import Derived.Test.YtipndbhedaknnaaDoorRfLaw
namespace Go.Proofs.YtipndbhedaknnaaDoor
open Go.RowKit

/- THE LINES OF A PROGRAM. -/
def mapP (br : Nat) : Array MapEntry := #[{ key := .string ⟨#[108, 105, 109, 105, 116]⟩, val := .func (.func 17) #[.pointer (some ⟨br, 0, none⟩)] #[], born := 0 }, { key := .string ⟨#[115, 116, 97, 116, 101]⟩, val := .func (.func 18) #[.pointer (some ⟨br, 0, none⟩)] #[], born := 1 }, { key := .string ⟨#[111, 110]⟩, val := .func (.func 19) #[.pointer (some ⟨br, 0, none⟩)] #[], born := 2 }, { key := .string ⟨#[116, 105, 109, 101, 111, 117, 116]⟩, val := .func (.func 20) #[.pointer (some ⟨br, 0, none⟩)] #[], born := 3 }, { key := .string ⟨#[102, 117, 108, 108]⟩, val := .func (.func 21) #[.pointer (some ⟨br, 0, none⟩)] #[], born := 4 }]
/-- The blocks of readLines. -/
structure RBp (H bm br : Nat) (k : Int) (W : World) : Prop where
  b4 : Boxed W H 52 (.map (some bm))
  b5 : Boxed W (H + 1) 3 (.int .i64 2)
  b6 : Boxed W (H + 1 + 1) 3 (.int .i64 0)
  b7 : Boxed W (H + 1 + 1 + 1) 3 (.int .i64 0)
  b8 : Boxed W (H + 1 + 1 + 1 + 1) 3 (.int .i64 k)
  mp : W.heap[bm]? = some (.map (mapP br) 5)
theorem RBp.keep {H bm br : Nat} {k : Int} {W W' : World} (h : RBp H bm br k W) (hb : br < H) (hm : bm < H) (hne : bm ≠ br) (hk : ∀ i, i < H + 8 → i ≠ br → W'.heap[i]? = W.heap[i]?) : RBp H bm br k W' :=
  ⟨(hk _ (by omega) (by omega)).trans h.b4, (hk _ (by omega) (by omega)).trans h.b5, (hk _ (by omega) (by omega)).trans h.b6, (hk _ (by omega) (by omega)).trans h.b7, (hk _ (by omega) (by omega)).trans h.b8, (hk _ (by omega) hne).trans h.mp⟩
theorem RBp.turn {H bm br : Nat} {k : Int} {A B : World} (h : RBp H bm br k A) (hm : bm < H) (t : Turn (H + 8) (H + 5) A B) : RBp H bm br k B :=
  ⟨t.boxed h.b4 (by omega), t.boxed h.b5 (by omega), t.boxed h.b6 (by omega), t.boxed h.b7 (by omega), t.boxed h.b8 (by omega), t.same bm _ (by omega) h.mp (.inl (by omega))⟩
theorem RBp.count {H bm br : Nat} {k : Int} {W : World} (h : RBp H bm br k W) (hm : bm < H) (k' : Int) : RBp H bm br k' (W.setCell ⟨H + 1 + 1 + 1 + 1, 0, none⟩ (.int .i64 k')) :=
  ⟨h.b4.other (by omega) _, h.b5.other (by omega) _, h.b6.other (by omega) _, h.b7.other (by omega) _, h.b8.set _, (Below.heap_setCell W _ _ bm (by show bm ≠ H + 1 + 1 + 1 + 1; omega)).trans h.mp⟩
theorem row_cell0 {W : World} {B n sz b : Nat} {e : TypeId} {v : Value} {xs : List Value} (h : W.ownsRow B e sz v n xs) (hb : v.ownBlock = some b) : ∃ c t, W.heap[b]? = some (.cells c t (0, 0)) := by
  rcases h.2 with ⟨rfl, _⟩ | ⟨g, cap, cur, rfl, _, h2, _⟩
  · cases hb
  · obtain rfl : g = b := by simpa [Value.ownBlock] using hb
    exact ⟨_, _, h2⟩
theorem PrAt.of {B br : Nat} {A A' : World} {sv : Value} {cv : Nat → Value} {p : PrD} (h : PrAt B br A sv cv p) (hb : A'.heap[br]? = A.heap[br]?) (hg : ∀ g c t, B ≤ g → A.heap[g]? = some (.cells c t (0, 0)) → A'.heap[g]? = A.heap[g]?) : PrAt B br A' sv cv p := by
  refine ⟨hb.trans h.box, h.V.keep fun k hk => ?_⟩
  have hB := (h.V.lt hk).1
  obtain ⟨c, t, hc⟩ : ∃ c t, A.heap[k]? = some (.cells c t (0, 0)) := by
    rcases hk with hk | ⟨i, hi, hk⟩
    · exact row_cell0 h.V.row hk
    · exact row_cell0 (h.V.cas i hi) hk
  exact hg k c t hB hc
theorem PrAt.turn {B br b H : Nat} {A A' : World} {sv : Value} {cv : Nat → Value} {p : PrD} (h : PrAt B br A sv cv p) (t : Turn H b A A') (hb : br ≠ b) (hv : b < B) : PrAt B br A' sv cv p :=
  h.of ((t.same br _ hb h.box (.inr rfl)).trans h.box.symm) (fun g c tt hg hc => (t.same g _ (by omega) hc (.inr rfl)).trans hc.symm)
/-- What a program is while it is read. -/
structure PrgOK (p : PrD) : Prop where
  lim : 0 ≤ p.lim
  pos : ¬p.states = [] → 0 < p.lim
  few : p.states.length ≤ 200
  tmo : ∀ s ∈ p.states, 0 ≤ s.tmo
  cas : ∀ s ∈ p.states, s.cases.length ≤ 100
theorem PrgOK.zero : PrgOK .zero := ⟨by simp [PrD.zero], fun h => absurd rfl h, by simp [PrD.zero], by simp [PrD.zero], by simp [PrD.zero]⟩
theorem PrgOK.last {a b : Int} {ini : List StD} {s s' : StD} (h : PrgOK ⟨a, b, ini ++ [s]⟩) (ht : 0 ≤ s'.tmo) (hc : s'.cases.length ≤ 100) : PrgOK ⟨a, b, ini ++ [s']⟩ := by
  refine ⟨h.lim, fun _ => h.pos (by simp), by have := h.few; simpa using this, fun q hq => ?_, fun q hq => ?_⟩
  · rcases List.mem_append.1 hq with hq | hq
    · exact h.tmo q (List.mem_append.2 (.inl hq))
    · rw [List.mem_singleton.1 hq]; exact ht
  · rcases List.mem_append.1 hq with hq | hq
    · exact h.cas q (List.mem_append.2 (.inl hq))
    · rw [List.mem_singleton.1 hq]; exact hc
theorem PrgOK.step {p : PrD} (h : PrgOK p) (fs : List (List UInt8)) (hr : (readL fs).2 = true) (ho : orderF p (readL fs).1 = true) (hm : manyF p (readL fs).1 = false) : PrgOK (stepF p (readL fs).1) := by
  have hk := readL_key fs hr
  generalize (readL fs).1 = l at *
  obtain ⟨key, x, y, tx, act⟩ := l
  obtain ⟨a, b, ss⟩ := p
  dsimp only at hk
  rcases hk with ⟨rfl, hx⟩ | rfl | rfl | ⟨rfl, hx⟩ | rfl
  · refine ⟨?_, fun _ => ?_, h.few, h.tmo, h.cas⟩
    · show 0 ≤ x; omega
    · show 0 < x; omega
  · have h1 : stepF ⟨a, b, ss⟩ ⟨115, x, y, tx, act⟩ = ⟨a, b, ss ++ [.new x]⟩ := rfl
    have ho' : 0 < a := by unfold orderF at ho; simpa using ho
    have hm' : ¬ss.length = 200 := by unfold manyF at hm; simpa using hm
    have hf : ss.length ≤ 200 := h.few
    rw [h1]
    refine ⟨h.lim, fun _ => ho', by simp; omega, fun q hq => ?_, fun q hq => ?_⟩
    · rcases List.mem_append.1 hq with hq | hq
      · exact h.tmo q hq
      · rw [List.mem_singleton.1 hq]; exact Int.le_refl _
    · rcases List.mem_append.1 hq with hq | hq
      · exact h.cas q hq
      · rw [List.mem_singleton.1 hq]; exact Nat.zero_le _
  · rcases List.eq_nil_or_concat ss with rfl | ⟨ini, s, rfl⟩
    · exact h
    · rw [List.concat_eq_append] at *
      have h1 : stepF ⟨a, b, ini ++ [s]⟩ ⟨111, x, y, tx, act⟩ = ⟨a, b, onLast (fun s => { s with cases := s.cases ++ [⟨tx, act⟩] }) (ini ++ [s])⟩ := rfl
      have hm' : ¬s.cases.length = 100 := by unfold manyF at hm; rw [lastC_eq] at hm; simpa using hm
      have hs := h.cas s (by simp)
      rw [h1, onLast_eq]
      exact h.last (h.tmo s (by simp)) (by simp; omega)
  · rcases List.eq_nil_or_concat ss with rfl | ⟨ini, s, rfl⟩
    · exact h
    · rw [List.concat_eq_append] at *
      have h1 : stepF ⟨a, b, ini ++ [s]⟩ ⟨116, x, y, tx, act⟩ = ⟨a, b, onLast (fun s => { s with tmo := x, onT := act }) (ini ++ [s])⟩ := rfl
      rw [h1, onLast_eq]
      exact h.last (by show 0 ≤ x; omega) (h.cas s (by simp))
  · rcases List.eq_nil_or_concat ss with rfl | ⟨ini, s, rfl⟩
    · exact h
    · rw [List.concat_eq_append] at *
      have h1 : stepF ⟨a, b, ini ++ [s]⟩ ⟨102, x, y, tx, act⟩ = ⟨a, b, onLast (fun s => { s with full := true, onF := act }) (ini ++ [s])⟩ := rfl
      rw [h1, onLast_eq]
      exact h.last (h.tmo s (by simp)) (h.cas s (by simp))
/-- Where the reading of the lines stands. -/
def PrgPre (pre : List (List UInt8)) (p : PrD) : Prop := PrgOK p ∧ ∀ rest, progL 0 .zero (pre ++ rest) = progL pre.length p rest
def PrgEnd (pre : List (List UInt8)) (code line : Int) : Prop := ¬code = 0 ∧ ∀ rest, progL 0 .zero (pre ++ rest) = (.zero, code, line)
theorem PrgPre.start : PrgPre [] .zero := ⟨PrgOK.zero, fun _ => rfl⟩
theorem PrgPre.skip {pre : List (List UInt8)} {p : PrD} (h : PrgPre pre p) {raw : List UInt8} (hs : skipF raw = true) : PrgPre (pre ++ [raw]) p :=
  ⟨h.1, fun rest => by rw [List.append_assoc, h.2, List.singleton_append, progL, if_pos hs, List.length_append]; rfl⟩
theorem PrgPre.one {pre : List (List UInt8)} {p : PrD} (h : PrgPre pre p) {raw : List UInt8} (hs : skipF raw = false) (hr : (readF raw).2 = true) (ho : orderF p (readF raw).1 = true) (hm : manyF p (readF raw).1 = false) : PrgPre (pre ++ [raw]) (stepF p (readF raw).1) :=
  ⟨h.1.step _ hr ho hm, fun rest => by rw [List.append_assoc, h.2, List.singleton_append, progL, if_neg (by simp [hs]), if_neg (by simp [hr]), if_neg (by simp [ho]), if_neg (by simp [hm]), List.length_append]; rfl⟩
theorem PrgPre.bad {pre : List (List UInt8)} {p : PrD} (h : PrgPre pre p) {raw : List UInt8} (hs : skipF raw = false) (hr : (readF raw).2 = false) : PrgEnd (pre ++ [raw]) 2 ((pre.length : Int) + 1) :=
  ⟨by decide, fun rest => by rw [List.append_assoc, h.2, List.singleton_append, progL, if_neg (by simp [hs]), if_pos hr]⟩
theorem PrgPre.order {pre : List (List UInt8)} {p : PrD} (h : PrgPre pre p) {raw : List UInt8} (hs : skipF raw = false) (hr : (readF raw).2 = true) (ho : orderF p (readF raw).1 = false) : PrgEnd (pre ++ [raw]) 3 ((pre.length : Int) + 1) :=
  ⟨by decide, fun rest => by rw [List.append_assoc, h.2, List.singleton_append, progL, if_neg (by simp [hs]), if_neg (by simp [hr]), if_pos ho]⟩
theorem PrgPre.many {pre : List (List UInt8)} {p : PrD} (h : PrgPre pre p) {raw : List UInt8} (hs : skipF raw = false) (hr : (readF raw).2 = true) (ho : orderF p (readF raw).1 = true) (hm : manyF p (readF raw).1 = true) : PrgEnd (pre ++ [raw]) 4 ((pre.length : Int) + 1) :=
  ⟨by decide, fun rest => by rw [List.append_assoc, h.2, List.singleton_append, progL, if_neg (by simp [hs]), if_neg (by simp [hr]), if_neg (by simp [ho]), if_pos hm]⟩
theorem readL_strange {f0 : List UInt8} {ls : List (List UInt8)} (h : ¬(f0 = [108, 105, 109, 105, 116] ∨ f0 = [115, 116, 97, 116, 101] ∨ f0 = [111, 110] ∨ f0 = [116, 105, 109, 101, 111, 117, 116] ∨ f0 = [102, 117, 108, 108])) : (readL (f0 :: ls)).2 = false := by
  unfold readL
  rw [if_neg (fun x => h (.inl (by simpa using x.1))), if_neg (fun x => h (.inr (.inl (by simpa using x.1)))), if_neg (fun x => h (.inr (.inr (.inl (by simpa using x.1))))), if_neg (fun x => h (.inr (.inr (.inr (.inl (by simpa using x.1)))))), if_neg (fun x => h (.inr (.inr (.inr (.inr (by simpa using x.1))))))]
/-- Where a round stands, begun at W. -/
structure RndP (H bm br n₀ : Nat) (k : Int) (wS W W' : World) : Prop where
  rb : RBp H bm br k W'
  keep : KeepsFrom (H + 8) W W'
  kp : ∀ i, H + 5 ≤ i → i < H + 8 → W'.heap[i]? = W.heap[i]?
  low : Below n₀ wS W'
  size : H + 8 ≤ W'.heap.size
theorem RndP.start {H bm br n₀ : Nat} {k : Int} {wS W : World} (h : RBp H bm br k W) (hm : bm < H) (hl : Below n₀ wS W) (hs : H + 8 ≤ W.heap.size) (hn : n₀ ≤ H) (k' : Int) : RndP H bm br n₀ k' wS W (W.setCell ⟨H + 1 + 1 + 1 + 1, 0, none⟩ (.int .i64 k')) :=
  ⟨h.count hm k', (KeepsOthers.setCell _ _ _).from _, fun i h1 h2 => Below.heap_setCell W _ _ i (by show i ≠ H + 1 + 1 + 1 + 1; omega), hl.setCell (p := ⟨H + 1 + 1 + 1 + 1, 0, none⟩) (by simp; omega) _, by simp; omega⟩
theorem RndP.step {H bm br n₀ : Nat} {k : Int} {wS W A B : World} (h : RndP H bm br n₀ k wS W A) (hm : bm < H) (hbr : br < H) (hne : bm ≠ br) (hn0 : n₀ ≤ br) (m : MildB (H + 8) br A B) : RndP H bm br n₀ k wS W B := by
  have hsz := h.size
  have lo : ∀ i, i < H + 8 → i ≠ br → B.heap[i]? = A.heap[i]? := fun i hi h1 => m.block i (by omega) h1 (fun h2 => by omega)
  refine ⟨h.rb.keep hbr hm hne lo, ⟨Nat.le_trans h.keep.size m.size, fun i o hi h1 h2 => ?_⟩, fun i h1 h2 => (lo i h2 (by omega)).trans (h.kp i h1 h2), ⟨m.os.trans h.low.os, m.tape.trans h.low.tape, m.output.trans h.low.output, Nat.le_trans h.low.size m.size, fun i hi => (lo i (by omega) (by omega)).trans (h.low.block i hi)⟩, Nat.le_trans h.size m.size⟩
  have h3 := h.keep.same i o hi h1 h2
  exact (m.block i (Array.getElem?_eq_some_iff.1 h3).1 (by omega) (fun _ o2 ho2 => by rw [h3] at ho2; cases ho2; exact h2)).trans h3
theorem RndP.out {H bm br n₀ : Nat} {k : Int} {wS W X : World} (h : RndP H bm br n₀ k wS W X) (hn : n₀ ≤ H) (code line : Int) :
    KeepsFrom (H + 8) W ((X.setCell ⟨H + 1 + 1, 0, none⟩ (.int .i64 code)).setCell ⟨H + 1 + 1 + 1, 0, none⟩ (.int .i64 line)) ∧ Boxed ((X.setCell ⟨H + 1 + 1, 0, none⟩ (.int .i64 code)).setCell ⟨H + 1 + 1 + 1, 0, none⟩ (.int .i64 line)) (H + 1 + 1) 3 (.int .i64 code) ∧ Boxed ((X.setCell ⟨H + 1 + 1, 0, none⟩ (.int .i64 code)).setCell ⟨H + 1 + 1 + 1, 0, none⟩ (.int .i64 line)) (H + 1 + 1 + 1) 3 (.int .i64 line) ∧ Below n₀ wS ((X.setCell ⟨H + 1 + 1, 0, none⟩ (.int .i64 code)).setCell ⟨H + 1 + 1 + 1, 0, none⟩ (.int .i64 line)) :=
  ⟨(h.keep.trans ((KeepsOthers.setCell _ _ _).from _)).trans ((KeepsOthers.setCell _ _ _).from _), (h.rb.b6.set (.int .i64 code)).other (B' := H + 1 + 1 + 1) (by omega) _, (h.rb.b7.other (B' := H + 1 + 1) (by omega) _).set _, (h.low.setCell (p := ⟨H + 1 + 1, 0, none⟩) (by simp; omega) (.int .i64 code)).setCell (p := ⟨H + 1 + 1 + 1, 0, none⟩) (by simp; omega) (.int .i64 line)⟩
theorem MildB.alloc {B br : Nat} (A : World) (o : Obj) : MildB B br A (A.alloc o) := MildB.below ((Below.refl _ A).alloc (Nat.le_refl _) _)
/-- The fields of a line are no longer than the line. -/
theorem cut_memP (c : UInt8) : ∀ (l k : List UInt8), k ∈ cutF c l → k.length ≤ l.length
  | [], k, h => by simp [cutF] at h; subst h; exact Nat.le_refl _
  | x :: l, k, h => by
    by_cases hx : x = c
    · rw [cutF, if_pos hx] at h
      rcases List.mem_cons.1 h with rfl | h
      · exact Nat.zero_le _
      · have := cut_memP c l k h; simp; omega
    · rw [cutF, if_neg hx] at h
      cases hc : cutF c l with
      | nil => exact absurd hc (cutF_ne _ _)
      | cons a r =>
        rw [hc] at h
        rcases List.mem_cons.1 h with rfl | h
        · have := cut_memP c l a (by rw [hc]; simp); simp; omega
        · have := cut_memP c l k (by rw [hc]; simp [h]); simp; omega
theorem cut_heads {c : UInt8} {l f0 : List UInt8} {ls : List (List UInt8)} (h : cutF c l = f0 :: ls) : (ls.headD []).length ≤ l.length ∧ (ls.tail.headD []).length ≤ l.length ∧ (ls.tail.tail.headD []).length ≤ l.length := by
  have hm := cut_memP c l
  rw [h] at hm
  rcases ls with _ | ⟨a, _ | ⟨b, _ | ⟨d, r⟩⟩⟩
  · simp
  · have := hm a (by simp); simp; omega
  · have := hm a (by simp); have := hm b (by simp); simp; omega
  · have := hm a (by simp); have := hm b (by simp); have := hm d (by simp); simp; omega
/-- The reader of a known key, and what it leaves. -/
theorem known_call {H br n : Nat} {f0 : List UInt8} {ls : List (List UInt8)} {sv : Value} {cv : Nat → Value} {p : PrD} {b g o cap : Nat} {w : World} (hp : PrgOK p) (h : PrAt H br w sv cv p) (hf : FldAt w b ls false g o cap) (hB : H ≤ b) (hbr : br < H) (hn : n ≤ 1048576) (hs : (ls.headD []).length ≤ n ∧ (ls.tail.headD []).length ≤ n ∧ (ls.tail.tail.headD []).length ≤ n)
    (hk : f0 = [108, 105, 109, 105, 116] ∨ f0 = [115, 116, 97, 116, 101] ∨ f0 = [111, 110] ∨ f0 = [116, 105, 109, 101, 111, 117, 116] ∨ f0 = [102, 117, 108, 108]) :
    ∃ i fn, (∀ args W, (callFunc fn args).run Tryd.prog W = .ok (.enter fn args) W) ∧ Instr.findNow .string (.string ⟨f0.toArray⟩) (mapP br).toList 0 = some (some (i, .func (.func fn) #[.pointer (some ⟨br, 0, none⟩)] #[])) ∧ Calls Tryd.prog fn #[.pointer (some ⟨br, 0, none⟩), .pointer (some ⟨b, 0, none⟩)] w (PTo H br w p (readL (f0 :: ls))) := by
  rcases hk with rfl | rfl | rfl | rfl | rfl
  · exact ⟨0, _, Tryd.call17, by unfold mapP; exact find_hit _ _ _ _ _, limit_ok H br b sv cv p ls g o cap w h hf hB hbr hp.lim (by omega) (by omega)⟩
  · exact ⟨1, _, Tryd.call18, by unfold mapP; rw [find_next _ _ _ _ _ _ (by decide)]; exact find_hit _ _ _ _ _, state_ok H br b sv cv p ls g o cap w h hf hB hbr hp.lim hp.few (by omega)⟩
  · exact ⟨2, _, Tryd.call19, by unfold mapP; rw [find_next _ _ _ _ _ _ (by decide), find_next _ _ _ _ _ _ (by decide)]; exact find_hit _ _ _ _ _, on_ok H br b sv cv p ls g o cap w h hf hB hbr hp.pos hp.few (by omega) (by omega) (by omega) hp.cas⟩
  · exact ⟨3, _, Tryd.call20, by unfold mapP; rw [find_next _ _ _ _ _ _ (by decide), find_next _ _ _ _ _ _ (by decide), find_next _ _ _ _ _ _ (by decide)]; exact find_hit _ _ _ _ _, timeout_ok H br b sv cv p ls g o cap w h hf hB hbr hp.pos hp.few (by omega) (by omega) (by omega) hp.tmo⟩
  · exact ⟨4, _, Tryd.call21, by unfold mapP; rw [find_next _ _ _ _ _ _ (by decide), find_next _ _ _ _ _ _ (by decide), find_next _ _ _ _ _ _ (by decide), find_next _ _ _ _ _ _ (by decide)]; exact find_hit _ _ _ _ _, full_ok H br b sv cv p ls g o cap w h hf hB hbr hp.pos hp.few (by omega) (by omega)⟩
theorem PTo.split {B br : Nat} {w w' : World} {p : PrD} {rd : LineD × Bool} {e : Ending} (h : PTo B br w p rd e w') : ∃ cc : Int, e = .returned (.int .i64 cc) ∧ MildB B br w w' ∧
    ((cc = 0 ∧ rd.2 = true ∧ orderF p rd.1 = true ∧ manyF p rd.1 = false ∧ ∃ sv cv, PrAt B br w' sv cv (stepF p rd.1)) ∨
     (¬cc = 0 ∧ ((rd.2 = false ∧ cc = 2) ∨ (rd.2 = true ∧ orderF p rd.1 = false ∧ cc = 3) ∨ (rd.2 = true ∧ orderF p rd.1 = true ∧ manyF p rd.1 = true ∧ cc = 4)))) := by
  obtain ⟨hm, sv, cv, ⟨h1, rfl, _⟩ | ⟨h1, h2, rfl, _⟩ | ⟨h1, h2, h3, rfl, _⟩ | ⟨h1, h2, h3, rfl, h4⟩⟩ := h
  · exact ⟨2, rfl, hm, .inr ⟨by decide, .inl ⟨h1, rfl⟩⟩⟩
  · exact ⟨3, rfl, hm, .inr ⟨by decide, .inr (.inl ⟨h1, h2, rfl⟩)⟩⟩
  · exact ⟨4, rfl, hm, .inr ⟨by decide, .inr (.inr ⟨h1, h2, h3, rfl⟩)⟩⟩
  · exact ⟨0, rfl, hm, .inl ⟨rfl, h1, h2, h3, sv, cv, h4⟩⟩
end Go.Proofs.YtipndbhedaknnaaDoor
