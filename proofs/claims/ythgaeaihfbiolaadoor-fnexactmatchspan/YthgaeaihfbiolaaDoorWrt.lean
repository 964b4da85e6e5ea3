import Derived.Test.YthgaeaihfbiolaaDoorPosH
import Derived.Test.YthgaeaihfbiolaaDoorLangRPart
import Derived.Test.YthgaeaihfbiolaaDoorEndsTreeA
namespace Go.Proofs.YthgaeaihfbiolaaDoor
open Go.RowKit

/- WRITING A PART OUT: what it leaves. -/
/-- What writing keeps: the blocks below B, and every block of another type than the tracks' own. -/
structure Kp (B : Nat) (w W : World) : Prop where
  os : W.os = w.os
  tape : W.tape = w.tape
  output : W.output = w.output
  size : w.heap.size ≤ W.heap.size
  low : ∀ k, k < B → W.heap[k]? = w.heap[k]?
  typ : ∀ (k : Nat) (cs : Array Value) (t : TypeId), w.heap[k]? = some (.cells cs t (0, 0)) → t ≠ 78 → t ≠ 83 → t ≠ 48 → W.heap[k]? = some (.cells cs t (0, 0))
theorem Kp.refl (B : Nat) (w : World) : Kp B w w := ⟨rfl, rfl, rfl, Nat.le_refl _, fun _ _ => rfl, fun _ _ _ h _ _ _ => h⟩
theorem Kp.trans {B : Nat} {a b c : World} (h : Kp B a b) (k : Kp B b c) : Kp B a c :=
  ⟨k.os.trans h.os, k.tape.trans h.tape, k.output.trans h.output, Nat.le_trans h.size k.size, fun i hi => (k.low i hi).trans (h.low i hi), fun i cs t e h1 h2 h3 => k.typ i cs t (h.typ i cs t e h1 h2 h3) h1 h2 h3⟩
theorem Kp.of_below {B : Nat} {w W : World} (hB : B ≤ w.heap.size) (h : Below w.heap.size w W) : Kp B w W :=
  ⟨h.os, h.tape, h.output, h.size, fun k hk => h.block k (by omega), fun k cs t e _ _ _ => (h.block k (Array.getElem?_eq_some_iff.1 e).1).trans e⟩
theorem Kp.of_touch {B : Nat} {S : Nat → Prop} {w W : World} (t : Touch S w W) (hB : B ≤ w.heap.size) (hS : ∀ k, k < w.heap.size → S k → B ≤ k ∧ ∃ cs t, w.heap[k]? = some (.cells cs t (0, 0)) ∧ (t = 78 ∨ t = 83 ∨ t = 48)) : Kp B w W :=
  ⟨t.os, t.tape, t.output, t.size, fun k hk => t.same k (by omega) (fun hs => by have := (hS k (by omega) hs).1; omega), fun k cs u e h1 h2 h3 => by
    have hlt := (Array.getElem?_eq_some_iff.1 e).1
    refine (t.same k hlt (fun hs => ?_)).trans e
    obtain ⟨-, cs', u', e', hu⟩ := hS k hlt hs
    rw [e] at e'
    have := cells_type e'
    subst this
    rcases hu with hu | hu | hu
    · exact h1 hu
    · exact h2 hu
    · exact h3 hu⟩
theorem Kp.touch {B : Nat} {S : Nat → Prop} {w W1 W2 : World} (h : Kp B w W1) (hB : B ≤ w.heap.size) (t : Touch S W1 W2) (hS : ∀ k, k < w.heap.size → S k → W2.heap[k]? = W1.heap[k]?) : Kp B w W2 := by
  have same : ∀ k, k < w.heap.size → W2.heap[k]? = W1.heap[k]? := fun k hk => by
    by_cases hs : S k
    · exact hS k hk hs
    · exact t.same k (Nat.lt_of_lt_of_le hk h.size) hs
  exact ⟨t.os.trans h.os, t.tape.trans h.tape, t.output.trans h.output, Nat.le_trans h.size t.size, fun k hk => (same k (by omega)).trans (h.low k hk), fun k cs t e h1 h2 h3 => (same k (Array.getElem?_eq_some_iff.1 e).1).trans (h.typ k cs t e h1 h2 h3)⟩
theorem Kp.pos {B : Nat} {w W : World} {nw g : Nat} {T : Nat → Nat} (h : Kp B w W) (hp : PosAt w nw g T) : PosAt W nw g T := ⟨h.typ _ _ _ hp.row (by decide) (by decide) (by decide), hp.lt⟩
theorem Kp.frag {B : Nat} {w W : World} {nw ga gl : Nat} {A L : Nat → Nat} (h : Kp B w W) (hp : FrAt w nw ga gl A L) : FrAt W nw ga gl A L := ⟨h.pos hp.fi, h.pos hp.la, hp.ne⟩
theorem Kp.keepM {B : Nat} {w W : World} (h : Kp B w W) : KeepM w W := fun _ _ e => h.typ _ _ _ e (by decide) (by decide) (by decide)

def tkOf (f : Nat → Nat → Bool) (p : Nat) (c : UInt8) : Prop := f p c.toNat = true
def folOf (F : Nat → Nat → Nat) (p q : Nat) : Prop := bitAt (F p) q = true
def inT (T : Nat → Nat) (p : Nat) : Prop := bitAt T p = true

/-- A part has been written out: its positions are those of [n, n'). -/
structure WrD (B : Nat) (w : World) (n nw bt : Nat) (mk : Nat → Nat) (f : Nat → Nat → Bool) (fr : Nat → Nat) (F : Nat → Nat → Nat) (W : World) (n' ga gl : Nat) (b : Bool) (M : Word → Prop) (sv fv : Value) (mk' : Nat → Nat) (f' : Nat → Nat → Bool) (fr' : Nat → Nat) (F' : Nat → Nat → Nat) (A L : Nat → Nat) : Prop where
  tk : Trk B W n' nw bt sv fv mk' f' fr' F'
  fg : FrAt W nw ga gl A L
  le : n ≤ n'
  na : w.heap.size ≤ ga
  nl : w.heap.size ≤ gl
  ea : ∀ p, p < n' → fr' p ≠ ga
  el : ∀ p, p < n' → fr' p ≠ gl
  old : ∀ p, p < n → mk' p = mk p ∧ f' p = f p ∧ fr' p = fr p ∧ F' p = F p
  new : ∀ p, n ≤ p → p < n' → w.heap.size ≤ fr' p
  good : Good (tkOf f') (folOf F') (fun p => n ≤ p ∧ p < n') (b = true) (inT A) (inT L) M
  kp : Kp B w W
  hB : B ≤ w.heap.size

theorem WrD.start {B : Nat} {w w0 W : World} {n nw bt : Nat} {mk : Nat → Nat} {f : Nat → Nat → Bool} {fr : Nat → Nat} {F : Nat → Nat → Nat} {n' ga gl : Nat} {b : Bool} {M : Word → Prop} {sv fv : Value} {mk' : Nat → Nat} {f' : Nat → Nat → Bool} {fr' : Nat → Nat} {F' : Nat → Nat → Nat} {A L : Nat → Nat}
    (h : WrD B w n nw bt mk f fr F W n' ga gl b M sv fv mk' f' fr' F' A L) (hb : Below w0.heap.size w0 w) (hB : B ≤ w0.heap.size) : WrD B w0 n nw bt mk f fr F W n' ga gl b M sv fv mk' f' fr' F' A L :=
  have hs := hb.size
  ⟨h.tk, h.fg, h.le, by have := h.na; omega, by have := h.nl; omega, h.ea, h.el, h.old, fun p h1 h2 => by have := h.new p h1 h2; omega, h.good, (Kp.of_below hB hb).trans h.kp, hB⟩
theorem WrD.below {B : Nat} {w W W2 : World} {n nw bt : Nat} {mk : Nat → Nat} {f : Nat → Nat → Bool} {fr : Nat → Nat} {F : Nat → Nat → Nat} {n' ga gl : Nat} {b : Bool} {M : Word → Prop} {sv fv : Value} {mk' : Nat → Nat} {f' : Nat → Nat → Bool} {fr' : Nat → Nat} {F' : Nat → Nat → Nat} {A L : Nat → Nat}
    (h : WrD B w n nw bt mk f fr F W n' ga gl b M sv fv mk' f' fr' F' A L) (hb : Below W.heap.size W W2) : WrD B w n nw bt mk f fr F W2 n' ga gl b M sv fv mk' f' fr' F' A L :=
  ⟨h.tk.below hb, h.fg.below hb, h.le, h.na, h.nl, h.ea, h.el, h.old, h.new, h.good, h.kp.trans (Kp.of_below (Nat.le_trans h.hB h.kp.size) hb), h.hB⟩

theorem Trk.putF {B : Nat} {w : World} {n nw bt b o : Nat} {sv fv v : Value} {mk : Nat → Nat} {f : Nat → Nat → Bool} {fr : Nat → Nat} {F : Nat → Nat → Nat} {cs : Array Value} (h : Trk B w n nw bt sv fv mk f fr F) (hb : w.heap[b]? = some (.cells cs 50 (0, 0))) (h0 : b ≠ 0) : Trk B (w.setCell ⟨b, o, none⟩ v) n nw bt sv fv mk f fr F := by
  have hk : ∀ (k : Nat) (a : Array Value) (u : TypeId), w.heap[k]? = some (.cells a u (0, 0)) → u ≠ 50 → (w.setCell ⟨b, o, none⟩ v).heap[k]? = some (.cells a u (0, 0)) := fun k a u hk hne =>
    ((grown_put w b o v).block k (Array.getElem?_eq_some_iff.1 hk).1 (fun e => by cases e; rw [hb] at hk; exact hne (cells_type hk).symm)).trans hk
  exact ⟨hk _ _ _ h.box (by decide), ownsRow_keepT h.so fun k cs e => hk k cs _ e (by decide), ownsRow_keepT h.fo fun k cs e => hk k cs _ e (by decide), ⟨fun p hp => ⟨hk _ _ _ (h.fol.rows p hp).row (by decide), (h.fol.rows p hp).lt⟩, h.fol.inj⟩, fun p hp => hk _ _ _ (h.mks p hp) (by decide), h.n64, h.nwl, h.bru.keep ((grown_put w b o v).block 0 (bru_pos h.bru) (fun e => h0 (by cases e; rfl))), h.bb, h.b0⟩
theorem PosAt.putF {w : World} {nw g b o : Nat} {T : Nat → Nat} {v : Value} {cs : Array Value} (h : PosAt w nw g T) (hb : w.heap[b]? = some (.cells cs 50 (0, 0))) : PosAt (w.setCell ⟨b, o, none⟩ v) nw g T :=
  h.put (fun e => by subst e; have := h.row; rw [hb] at this; exact absurd (cells_type this) (by decide))
theorem WrD.putF {B : Nat} {w W : World} {n nw bt : Nat} {mk : Nat → Nat} {f : Nat → Nat → Bool} {fr : Nat → Nat} {F : Nat → Nat → Nat} {n' ga gl : Nat} {b : Bool} {M : Word → Prop} {sv fv : Value} {mk' : Nat → Nat} {f' : Nat → Nat → Bool} {fr' : Nat → Nat} {F' : Nat → Nat → Nat} {A L : Nat → Nat} {k o : Nat} {v : Value} {cs : Array Value}
    (h : WrD B w n nw bt mk f fr F W n' ga gl b M sv fv mk' f' fr' F' A L) (hb : W.heap[k]? = some (.cells cs 50 (0, 0))) (h0 : w.heap.size ≤ k) (h1 : 0 < w.heap.size) : WrD B w n nw bt mk f fr F (W.setCell ⟨k, o, none⟩ v) n' ga gl b M sv fv mk' f' fr' F' A L :=
  ⟨h.tk.putF hb (by omega), ⟨h.fg.fi.putF hb, h.fg.la.putF hb, h.fg.ne⟩, h.le, h.na, h.nl, h.ea, h.el, h.old, h.new, h.good, h.kp.touch h.hB ((Touch.refl (fun j => j = k) W).grown (grown_put W k o v) (fun g e => by cases e; exact .inl rfl)) (fun j hj e => by omega), h.hB⟩

/-- Two parts have been written out. -/
structure Pair (B : Nat) (w : World) (n nw bt : Nat) (mk : Nat → Nat) (f : Nat → Nat → Bool) (fr : Nat → Nat) (F : Nat → Nat → Nat) (W : World) (n' ga gl ha hl : Nat) (b c : Bool) (D E : Nat → Prop) (M N : Word → Prop) (sv fv : Value) (mk' : Nat → Nat) (f' : Nat → Nat → Bool) (fr' : Nat → Nat) (F' : Nat → Nat → Nat) (A L A' L' : Nat → Nat) : Prop where
  tk : Trk B W n' nw bt sv fv mk' f' fr' F'
  x : FrAt W nw ga gl A L
  y : FrAt W nw ha hl A' L'
  le : n ≤ n'
  na : w.heap.size ≤ ga
  nl : w.heap.size ≤ gl
  ma : w.heap.size ≤ ha
  ml : w.heap.size ≤ hl
  aa : ga ≠ ha
  al : ga ≠ hl
  la : gl ≠ ha
  ll : gl ≠ hl
  e1 : ∀ p, p < n' → fr' p ≠ ga
  e2 : ∀ p, p < n' → fr' p ≠ gl
  e3 : ∀ p, p < n' → fr' p ≠ ha
  e4 : ∀ p, p < n' → fr' p ≠ hl
  old : ∀ p, p < n → mk' p = mk p ∧ f' p = f p ∧ fr' p = fr p ∧ F' p = F p
  new : ∀ p, n ≤ p → p < n' → w.heap.size ≤ fr' p
  gx : Good (tkOf f') (folOf F') D (b = true) (inT A) (inT L) M
  gy : Good (tkOf f') (folOf F') E (c = true) (inT A') (inT L') N
  dj : ∀ p, D p → ¬E p
  un : ∀ p, D p ∨ E p ↔ n ≤ p ∧ p < n'
  kp : Kp B w W
  hB : B ≤ w.heap.size
theorem Pair.swap {B : Nat} {w W : World} {n nw bt : Nat} {mk : Nat → Nat} {f : Nat → Nat → Bool} {fr : Nat → Nat} {F : Nat → Nat → Nat} {n' ga gl ha hl : Nat} {b c : Bool} {D E : Nat → Prop} {M N : Word → Prop} {sv fv : Value} {mk' : Nat → Nat} {f' : Nat → Nat → Bool} {fr' : Nat → Nat} {F' : Nat → Nat → Nat} {A L A' L' : Nat → Nat}
    (h : Pair B w n nw bt mk f fr F W n' ga gl ha hl b c D E M N sv fv mk' f' fr' F' A L A' L') : Pair B w n nw bt mk f fr F W n' ha hl ga gl c b E D N M sv fv mk' f' fr' F' A' L' A L :=
  ⟨h.tk, h.y, h.x, h.le, h.ma, h.ml, h.na, h.nl, h.aa.symm, h.la.symm, h.al.symm, h.ll.symm, h.e3, h.e4, h.e1, h.e2, h.old, h.new, h.gy, h.gx, fun p a b => h.dj p b a, fun p => (Or.comm).trans (h.un p), h.kp, h.hB⟩
theorem WrD.pair {B : Nat} {w W1 W1' W2 : World} {n nw bt : Nat} {mk : Nat → Nat} {f : Nat → Nat → Bool} {fr : Nat → Nat} {F : Nat → Nat → Nat} {n1 n2 ga gl ha hl : Nat} {b c : Bool} {M N : Word → Prop} {sv fv sv2 fv2 : Value} {mk1 mk2 : Nat → Nat} {f1 f2 : Nat → Nat → Bool} {fr1 fr2 : Nat → Nat} {F1 F2 : Nat → Nat → Nat} {A L A' L' : Nat → Nat}
    (h : WrD B w n nw bt mk f fr F W1 n1 ga gl b M sv fv mk1 f1 fr1 F1 A L) (hb : Below W1.heap.size W1 W1') (k : WrD B W1' n1 nw bt mk1 f1 fr1 F1 W2 n2 ha hl c N sv2 fv2 mk2 f2 fr2 F2 A' L') :
    Pair B w n nw bt mk f fr F W2 n2 ga gl ha hl b c (fun p => n ≤ p ∧ p < n1) (fun p => n1 ≤ p ∧ p < n2) M N sv2 fv2 mk2 f2 fr2 F2 A L A' L' := by
  have s1 := h.kp.size
  have s2 := hb.size
  have lga := h.fg.fi.glt
  have lgl := h.fg.la.glt
  have q1 := h.na
  have q2 := h.nl
  have q3 := k.na
  have q4 := k.nl
  have l1 := h.le
  have l2 := k.le
  have hfr : ∀ p, p < n2 → ∀ g, g < W1.heap.size → (∀ p, p < n1 → fr1 p ≠ g) → fr2 p ≠ g := fun p hp g hg h1 e => by
    by_cases hpn : p < n1
    · rw [(k.old p hpn).2.2.1] at e; exact h1 p hpn e
    · have := k.new p (by omega) hp; omega
  refine ⟨k.tk, k.kp.frag (h.fg.below hb), k.fg, by omega, q1, q2, by omega, by omega, by omega, by omega, by omega, by omega, fun p hp => hfr p hp ga lga h.ea, fun p hp => hfr p hp gl lgl h.el, k.ea, k.el, fun p hp => ?_, fun p h1 h2 => ?_, ?_, k.good, fun p a b => by omega, fun p => by omega, h.kp.trans ((Kp.of_below (by have := h.hB; omega) hb).trans k.kp), h.hB⟩
  · obtain ⟨a1, a2, a3, a4⟩ := h.old p hp
    obtain ⟨b1, b2, b3, b4⟩ := k.old p (by omega)
    exact ⟨b1.trans a1, b2.trans a2, b3.trans a3, b4.trans a4⟩
  · by_cases hpn : p < n1
    · rw [(k.old p hpn).2.2.1]; exact h.new p h1 hpn
    · have := k.new p (by omega) h2; omega
  · refine (h.good.congr (fol' := folOf F2) fun p q hp => ?_).tk fun p c hp => ?_
    · unfold folOf; rw [(k.old p hp.2).2.2.2]
    · unfold tkOf; rw [(k.old p hp.2).2.1]
theorem orT_in (T U : Nat → Nat) (p : Nat) : inT (orT T U) p ↔ inT T p ∨ inT U p := by unfold inT; rw [orT_bit, Bool.or_eq_true]
theorem Good.dom {tk : Nat → UInt8 → Prop} {fol : Nat → Nat → Prop} {D D' : Nat → Prop} {e e' : Prop} {first last first' last' : Nat → Prop} {L : Word → Prop} (h : Good tk fol D e first last L) (hd : ∀ p, D p ↔ D' p) (he : e ↔ e') (h1 : ∀ p, first p ↔ first' p) (h2 : ∀ p, last p ↔ last' p) : Good tk fol D' e' first' last' L := by
  obtain rfl : D = D' := funext fun p => propext (hd p)
  obtain rfl : e = e' := propext he
  obtain rfl : first = first' := funext fun p => propext (h1 p)
  obtain rfl : last = last' := funext fun p => propext (h2 p)
  exact h
theorem Pair.alt {B : Nat} {w W W2 : World} {n nw bt : Nat} {mk : Nat → Nat} {f : Nat → Nat → Bool} {fr : Nat → Nat} {F : Nat → Nat → Nat} {n' ga gl ha hl : Nat} {b c : Bool} {D E : Nat → Prop} {M N : Word → Prop} {sv fv : Value} {mk' : Nat → Nat} {f' : Nat → Nat → Bool} {fr' : Nat → Nat} {F' : Nat → Nat → Nat} {A L A' L' : Nat → Nat}
    (h : Pair B w n nw bt mk f fr F W n' ga gl ha hl b c D E M N sv fv mk' f' fr' F' A L A' L') (hf : FrAt W2 nw ga gl (orT A A') (orT L L')) (t : Touch (fun k => k = ga ∨ k = gl) W W2) :
    WrD B w n nw bt mk f fr F W2 n' ga gl (b || c) (fun u => M u ∨ N u) sv fv mk' f' fr' F' (orT A A') (orT L L') := by
  have q1 := h.na
  have q2 := h.nl
  refine ⟨h.tk.turn t (fun k _ e => ?_) ⟨fun p hp => (h.tk.fol.rows p hp).touch t (fun e => ?_), h.tk.fol.inj⟩, hf, h.le, h.na, h.nl, h.e1, h.e2, h.old, h.new, ?_, h.kp.touch h.hB t (fun k hk e => by omega), h.hB⟩
  · rcases e with rfl | rfl
    · exact ⟨_, _, h.x.fi⟩
    · exact ⟨_, _, h.x.la⟩
  · rcases e with e | e
    · exact h.e1 p hp e
    · exact h.e2 p hp e
  · exact (good_alt h.gx h.gy h.dj).dom h.un (by simp) (fun p => (orT_in _ _ _).symm) (fun p => (orT_in _ _ _).symm)
theorem seqF_in (F : Nat → Nat → Nat) (L A : Nat → Nat) (p q : Nat) : folOf (fun p => if bitAt L p = true then orT (F p) A else F p) p q ↔ folOf F p q ∨ (inT L p ∧ inT A q) := by
  show bitAt (if bitAt L p = true then orT (F p) A else F p) q = true ↔ bitAt (F p) q = true ∨ (bitAt L p = true ∧ bitAt A q = true)
  by_cases e : bitAt L p = true
  · rw [if_pos e, orT_bit, Bool.or_eq_true]; simp [e]
  · rw [if_neg e]; simp [e]
theorem Pair.seq {B : Nat} {w W W2 : World} {n nw bt : Nat} {mk : Nat → Nat} {f : Nat → Nat → Bool} {fr : Nat → Nat} {F : Nat → Nat → Nat} {n' ga gl ha hl : Nat} {b c : Bool} {D E : Nat → Prop} {M N : Word → Prop} {sv fv : Value} {mk' : Nat → Nat} {f' : Nat → Nat → Bool} {fr' : Nat → Nat} {F' : Nat → Nat → Nat} {A L A' L' : Nat → Nat} {e : Ending}
    (h : Pair B w n nw bt mk f fr F W n' ga gl ha hl b c D E M N sv fv mk' f' fr' F' A L A' L')
    (hs : SeqR2 W n' nw bt sv fv fr' (fun p => if bitAt L p = true then orT (F' p) A' else F' p) ga hl (b && c) (if b = true then orT A A' else A) (if c = true then orT L' L else L') e W2) :
    WrD B w n nw bt mk f fr F W2 n' ga hl (b && c) (fun u => ∃ x y, u = x ++ y ∧ M x ∧ N y) sv fv mk' f' fr' (fun p => if bitAt L p = true then orT (F' p) A' else F' p) (if b = true then orT A A' else A) (if c = true then orT L' L else L') := by
  obtain ⟨-, hf, htk, t⟩ := hs
  have q1 := h.na
  have q2 := h.ml
  have hL : ∀ p, bitAt L p = true → n ≤ p ∧ p < n' := fun p hp => (h.un p).1 (.inl (h.gx.la p hp))
  have hold : ∀ p, p < n → (if bitAt L p = true then orT (F' p) A' else F' p) = F' p := fun p hp => by
    rw [if_neg (fun e => by have := hL p e; omega)]
  refine ⟨h.tk.turn t (fun k _ e => ?_) htk.fol, hf, h.le, h.na, h.ml, h.e1, h.e4, fun p hp => ?_, h.new, ?_, h.kp.touch h.hB t (fun k hk e => ?_), h.hB⟩
  · rcases e with rfl | rfl | ⟨p, hp, rfl⟩
    · exact ⟨_, _, h.x.fi⟩
    · exact ⟨_, _, h.y.la⟩
    · exact ⟨_, _, h.tk.fol.rows p hp⟩
  · obtain ⟨a1, a2, a3, a4⟩ := h.old p hp
    exact ⟨a1, a2, a3, (hold p hp).trans a4⟩
  · refine (good_seq (fol' := folOf (fun p => if bitAt L p = true then orT (F' p) A' else F' p)) (f := inT (if b = true then orT A A' else A)) (l := inT (if c = true then orT L' L else L')) h.gx h.gy h.dj (fun p q _ => ?_) (fun p => ?_) (fun p => ?_)).dom h.un (by simp) (fun _ => Iff.rfl) (fun _ => Iff.rfl)
    · exact seqF_in F' L A' p q
    · cases b
      · simp
      · rw [if_pos rfl, orT_in]; simp
    · cases c
      · simp
      · rw [if_pos rfl, orT_in]; simp
  · rcases e with e | e | ⟨p, hp, e⟩
    · omega
    · omega
    · have hpn : p < n := by
        rcases Nat.lt_or_ge p n with h1 | h1
        · exact h1
        · have := h.new p h1 hp; omega
      have r1 := (h.tk.fol.rows p hp).row
      have r2 := (htk.fol.rows p hp).row
      rw [hold p hpn] at r2
      rw [e, r1, r2]

theorem WrD.words {B : Nat} {w W : World} {n nw bt : Nat} {mk : Nat → Nat} {f : Nat → Nat → Bool} {fr : Nat → Nat} {F : Nat → Nat → Nat} {n' ga gl : Nat} {b : Bool} {M N : Word → Prop} {sv fv : Value} {mk' : Nat → Nat} {f' : Nat → Nat → Bool} {fr' : Nat → Nat} {F' : Nat → Nat → Nat} {A L : Nat → Nat}
    (h : WrD B w n nw bt mk f fr F W n' ga gl b M sv fv mk' f' fr' F' A L) (hl : ∀ u, M u ↔ N u) : WrD B w n nw bt mk f fr F W n' ga gl b N sv fv mk' f' fr' F' A L :=
  ⟨h.tk, h.fg, h.le, h.na, h.nl, h.ea, h.el, h.old, h.new, h.good.words hl, h.kp, h.hB⟩
/-- The empty text besides. -/
theorem WrD.opt {B : Nat} {w W : World} {n nw bt : Nat} {mk : Nat → Nat} {f : Nat → Nat → Bool} {fr : Nat → Nat} {F : Nat → Nat → Nat} {n' ga gl : Nat} {b : Bool} {M : Word → Prop} {sv fv : Value} {mk' : Nat → Nat} {f' : Nat → Nat → Bool} {fr' : Nat → Nat} {F' : Nat → Nat → Nat} {A L : Nat → Nat}
    (h : WrD B w n nw bt mk f fr F W n' ga gl b M sv fv mk' f' fr' F' A L) : WrD B w n nw bt mk f fr F W n' ga gl true (fun u => u = [] ∨ M u) sv fv mk' f' fr' F' A L :=
  ⟨h.tk, h.fg, h.le, h.na, h.nl, h.ea, h.el, h.old, h.new, h.good.opt.dom (fun _ => Iff.rfl) (by simp) (fun _ => Iff.rfl) (fun _ => Iff.rfl), h.kp, h.hB⟩
/-- The last linked to the first. -/
theorem WrD.star {B : Nat} {w W W2 : World} {n nw bt : Nat} {mk : Nat → Nat} {f : Nat → Nat → Bool} {fr : Nat → Nat} {F : Nat → Nat → Nat} {n' ga gl : Nat} {b : Bool} {M : Word → Prop} {sv fv : Value} {mk' : Nat → Nat} {f' : Nat → Nat → Bool} {fr' : Nat → Nat} {F' : Nat → Nat → Nat} {A L : Nat → Nat}
    (h : WrD B w n nw bt mk f fr F W n' ga gl b M sv fv mk' f' fr' F' A L) (htk : TrkL W2 n' nw bt sv fv fr' (fun p => if bitAt L p = true then orT (F' p) A else F' p)) (t : Touch (fun k => ∃ p, p < n' ∧ k = fr' p) W W2) :
    WrD B w n nw bt mk f fr F W2 n' ga gl true (fun u => ∃ k, Pow M k u) sv fv mk' f' fr' (fun p => if bitAt L p = true then orT (F' p) A else F' p) A L := by
  have hL : ∀ p, bitAt L p = true → n ≤ p ∧ p < n' := fun p hp => h.good.la p hp
  have hold : ∀ p, p < n → (if bitAt L p = true then orT (F' p) A else F' p) = F' p := fun p hp => by
    rw [if_neg (fun e => by have := hL p e; omega)]
  refine ⟨h.tk.turn t (fun k _ ⟨p, hp, e⟩ => ⟨_, _, e ▸ h.tk.fol.rows p hp⟩) htk.fol, ⟨h.fg.fi.touch t (fun ⟨p, hp, e⟩ => h.ea p hp e.symm), h.fg.la.touch t (fun ⟨p, hp, e⟩ => h.el p hp e.symm), h.fg.ne⟩, h.le, h.na, h.nl, h.ea, h.el, fun p hp => ?_, h.new, ?_, h.kp.touch h.hB t (fun k hk ⟨p, hp, e⟩ => ?_), h.hB⟩
  · obtain ⟨a1, a2, a3, a4⟩ := h.old p hp
    exact ⟨a1, a2, a3, (hold p hp).trans a4⟩
  · exact (good_star (fol' := folOf (fun p => if bitAt L p = true then orT (F' p) A else F' p)) h.good (fun p q _ => seqF_in F' L A p q)).dom (fun _ => Iff.rfl) (by simp) (fun _ => Iff.rfl) (fun _ => Iff.rfl)
  · have hpn : p < n := by
      rcases Nat.lt_or_ge p n with h1 | h1
      · exact h1
      · have := h.new p h1 hp; omega
    have r1 := (h.tk.fol.rows p hp).row
    have r2 := (htk.fol.rows p hp).row
    rw [hold p hpn] at r2
    rw [e, r1, r2]
theorem zero_in (p : Nat) : inT zeroT p ↔ False := by unfold inT; rw [zeroT_bit]; simp
theorem WrD.bare {B : Nat} {w W : World} {n nw bt : Nat} {mk : Nat → Nat} {f : Nat → Nat → Bool} {fr : Nat → Nat} {F : Nat → Nat → Nat} {sv fv : Value} (h : Trk B w n nw bt sv fv mk f fr F) {ga gl : Nat} (b : Bool) (na : w.heap.size ≤ ga) (nl : w.heap.size ≤ gl) (hf : FrAt W nw ga gl zeroT zeroT) (hb : Below w.heap.size w W) :
    WrD B w n nw bt mk f fr F W n ga gl b (fun u => u = [] ∧ b = true) sv fv mk f fr F zeroT zeroT := by
  have hbt : bt < w.heap.size := (Array.getElem?_eq_some_iff.1 h.box).1
  have hB : B ≤ w.heap.size := by have := h.bb; omega
  have hfl : ∀ p, p < n → fr p < w.heap.size := fun p hp => (h.fol.rows p hp).glt
  exact ⟨h.below hb, hf, Nat.le_refl _, na, nl, fun p hp => by have := hfl p hp; omega, fun p hp => by have := hfl p hp; omega, fun _ _ => ⟨rfl, rfl, rfl, rfl⟩, fun p h1 h2 => by omega, (good_bare (tkOf f) (folOf F) (b = true)).dom (fun p => ⟨False.elim, fun k => by omega⟩) Iff.rfl (fun p => (zero_in p).symm) (fun p => (zero_in p).symm), Kp.of_below hB hb, hB⟩

/-- What writing a part out leaves. -/
def WrR (B : Nat) (w : World) (n nw bt : Nat) (mk : Nat → Nat) (f : Nat → Nat → Bool) (fr : Nat → Nat) (F : Nat → Nat → Nat) (k : Nat) (M : Word → Prop) (e : Ending) (W : World) : Prop :=
  ∃ (n' ga gl : Nat) (b : Bool) (sv fv : Value) (mk' : Nat → Nat) (f' : Nat → Nat → Bool) (fr' : Nat → Nat) (F' : Nat → Nat → Nat) (A L : Nat → Nat), e = .returned (.agg #[.bool b, .slice (some ⟨ga, 0, none⟩) nw nw, .slice (some ⟨gl, 0, none⟩) nw nw]) ∧ n' ≤ n + k ∧ WrD B w n nw bt mk f fr F W n' ga gl b M sv fv mk' f' fr' F' A L
theorem WrD.ret {B : Nat} {w W : World} {n nw bt : Nat} {mk : Nat → Nat} {f : Nat → Nat → Bool} {fr : Nat → Nat} {F : Nat → Nat → Nat} {n' ga gl : Nat} {b : Bool} {M : Word → Prop} {sv fv : Value} {mk' : Nat → Nat} {f' : Nat → Nat → Bool} {fr' : Nat → Nat} {F' : Nat → Nat → Nat} {A L : Nat → Nat} {k m : Nat} {cs : Array Value}
    (h : WrD B w n nw bt mk f fr F W n' ga gl b M sv fv mk' f' fr' F' A L) (hb : W.heap[k]? = some (.cells cs 50 (0, 0))) (h0 : w.heap.size ≤ k) (h1 : 0 < w.heap.size) (hm : n' ≤ n + m) :
    WrR B w n nw bt mk f fr F m M (.returned (.agg #[.bool b, .slice (some ⟨ga, 0, none⟩) nw nw, .slice (some ⟨gl, 0, none⟩) nw nw])) (((W.setCell ⟨k, 0, none⟩ (.bool b)).setCell ⟨k, 1, none⟩ (.slice (some ⟨ga, 0, none⟩) nw nw)).setCell ⟨k, 2, none⟩ (.slice (some ⟨gl, 0, none⟩) nw nw)) := by
  have r1 := heap_setCell_same _ _ 0 _ _ (.bool b) hb
  have r2 := heap_setCell_same _ _ 1 _ _ (.slice (some ⟨ga, 0, none⟩) nw nw) r1
  exact ⟨n', ga, gl, b, sv, fv, mk', f', fr', F', A, L, rfl, hm, ((h.putF hb h0 h1).putF r1 h0 h1).putF r2 h0 h1⟩
end Go.Proofs.YthgaeaihfbiolaaDoor
