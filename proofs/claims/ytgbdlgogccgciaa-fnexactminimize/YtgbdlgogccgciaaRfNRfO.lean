import Derived.Test.YtgbdlgogccgciaaRfLaw
import Derived.Test.YtgbdlgogccgciaaRowRun
import Derived.Test.YtgbdlgogccgciaaFamMinI
namespace Go.Proofs.Ytgbdlgogccgciaa
open Go.RowKit
attribute [local go_sem] Oper.semAt_some

/- A LOOP OVER AN ITERATOR THAT GIVES N VALUES, ONE AFTER ANOTHER, AND KEEPS NOTHING; no round leaves it early. -/
def SeqN (n : Nat) (P : Program) (g : Nat) (encs : Nat → Array Value) (N : Nat) : Prop :=
  ∀ (l : Nat) (J : Nat → World → Prop) (W : World),
    (∀ k W1, J k W1 → k < N → YieldAt Fence.wide (n - 1) P l (encs k) W1 fun e W' => e = .returned (.bool true) ∧ J (k + 1) W') →
    J 0 W → CallsIn Fence.wide n P g (#[.func (.yield l) #[] #[]] ++ #[]) W fun e W' => (∃ v, e = .returned v) ∧ J N W'
/-- How a round may be left. -/
def seqPost (B : Nat) (I : Nat → World → Prop) (k : Nat) (W : World) : Exit → Act → World → Prop
  | .normal, _, W' => KeepsFrom B W W' ∧ I k W'
  | _, _, _ => False
theorem wpIn_seqN {n : Nat} {P : Program} {g : Operand} {ps : Array Tmp} {assign body : Code} {Q : Exit → Act → World → Prop} {a : Act} {w : World} (h1 : 1 ≤ n)
    {gf : Nat} (hg : a.eval g = .func (.func gf) #[] #[]) (eg : ∀ args w, (callFunc gf args).run P w = .ok (.enter gf args) w)
    {encs : Nat → Array Value} {N : Nat} (hseq : SeqN (n - 1) P gf encs N) (hps : ∀ k, (encs k).size = ps.size)
    (I : Nat → World → Prop) (hI : OwnFrom w.heap.size I) (h0 : I 0 w) (a₁ : Nat → Act)
    (hassign : ∀ (l k : Nat) (W : World) (K : Act → World → Prop), K (a₁ k) W →
      assign.wpIn (Fence.wide.inRound l) (n - 1 - 1) P (Exit.then K (fun _ _ _ => False)) { tmps := (ps.zip (encs k)).foldl (fun t (p, v) => t.setIfInBounds p v) a.tmps, defers := [] } W)
    (hbody : ∀ (l k : Nat) (W : World), w.heap.size ≤ l → I k W → k < N → body.wpIn (Fence.wide.inRound l) (n - 1 - 1) P (seqPost w.heap.size I (k + 1) W) (a₁ k) W)
    (hdone : ∀ (D : Nat) (W : World), D = w.heap.size → I N W → W.heap[D]? = some (.deferred (some [])) → Q .normal { a with defers := { target := .collected D, args := #[] } :: a.defers } W) :
    (Code.rangeFunc g ps assign body).wpIn Fence.wide n P Q a w := by
  refine wpIn_rangeFunc fun fn hfn => ?_
  let rc : LoopState → Option Code → Loop := fun st pe => { state := st, pending := pe, fn, tmps := a.tmps, params := ps, assign, body, defers := w.heap.size }
  obtain ⟨W1, hW1⟩ : ∃ W1, (w.alloc (.deferred (some []))).alloc (.loop (rc .ready none)) = W1 := ⟨_, rfl⟩
  have rec1 : W1.heap[w.heap.size + 1]? = some (.loop (rc .ready none)) := by
    rw [← hW1]
    have := World.alloc_heap_new (w.alloc (.deferred (some []))) (.loop (rc .ready none))
    rwa [World.size_alloc] at this
  have def1 : W1.heap[w.heap.size]? = some (.deferred (some [])) := by rw [← hW1, Below.heap_alloc _ _ _ (by simp), World.alloc_heap_new]
  have i1 : I 0 W1 := by rw [← hW1]; exact hI.alloc _ (hI.alloc _ h0)
  refine ⟨w.heap.size + 1, [{ target := .collected w.heap.size, args := #[] }], W1, { target := .fn (.func gf) #[], args := #[.func (.yield (w.heap.size + 1)) #[] #[]] }, W1, gf,
    #[.func (.yield (w.heap.size + 1)) #[] #[]] ++ #[], W1, ?_, ?_, fun _ _ => trivial, ?_, fun _ => h1, ?_⟩
  · rw [← hW1]; exact run_enterLoop_outer _ _ _ _ _
  · simp only [resolve, hg]; simp [go_sem]
  · simp [invoke, go_sem, eg]
  refine (hseq (w.heap.size + 1)
    (fun k W => I k W ∧ W.heap[w.heap.size + 1]? = some (.loop (rc .ready none)) ∧ W.heap[w.heap.size]? = some (.deferred (some [])))
    W1 ?_ ⟨i1, rec1, def1⟩).mono ?_
  · rintro k W ⟨hi, hl, hk⟩ hlen
    have hlt := (Array.getElem?_eq_some_iff.1 hl).1
    refine ⟨fn, _, assign, body, run_yield (P := P) (args := encs k) hl (hps k), roundIn_of_wpIn hfn (hassign _ k W _ ⟨_, run_beginRound hl rfl, ?_⟩)⟩
    have busy : (W.putObj (w.heap.size + 1) (.loop (rc .busy none))).heap[w.heap.size + 1]? = some (.loop (rc .busy none)) := World.putObj_heap_same hlt
    have held : (W.putObj (w.heap.size + 1) (.loop (rc .busy none))).heap[w.heap.size]? = some (.deferred (some [])) := (World.putObj_heap_other (by omega)).trans hk
    refine wpIn_mono (hbody _ k _ (by omega) (hI.putObj _ hi (by omega) hl rfl) hlen) ?_
    rintro e a3 W3 hp
    cases e with
    | normal =>
      obtain ⟨k3, i3⟩ := hp
      have l3 := k3.same _ _ (by omega) busy rfl
      exact ⟨_, _, run_endRound (P := P) none l3, rfl, hI.putObj _ i3 (by omega) l3 rfl, World.putObj_heap_same (Array.getElem?_eq_some_iff.1 l3).1, (World.putObj_heap_other (by omega)).trans (k3.same _ _ (Nat.le_refl _) held rfl)⟩
    | ret => exact hp.elim
    | exit id => exact hp.elim
    | goto t => exact hp.elim
    | panic ch => exact hp.elim
    | outgrown => exact hp.elim
  · rintro e W2 ⟨⟨v, rfl⟩, hi, hl, hk⟩
    exact ⟨none, _, run_endLoop (P := P) hl (by simp [rc]), hdone _ _ rfl (hI.putObj _ hi (by omega) hl rfl) ((World.putObj_heap_other (by omega)).trans hk)⟩
/- allBytes. -/
def byteN (k : Nat) : Array Value := #[.int .i64 (k : Int)]
set_option maxRecDepth 100000 in
set_option maxHeartbeats 1000000 in
theorem allBytes_seq (n : Nat) (hn : 1 ≤ n) : SeqN n Try.prog 30 byteN 256 := by
  intro l J W hY h0
  refine callsIn_of_wp Try.func30 rfl trivial ?_ rfl
  simp only [Try.ntmps30, List.size_toArray, List.length_cons, List.length_nil, Nat.reduceAdd, Nat.reduceSub, Array.replicate_succ, Array.replicate_zero, List.push_toArray, List.append_toArray, List.nil_append, List.cons_append]
  gi_wp2
  gi_loopw [3] (fun p wr => ∃ k : Nat, p = .int .i64 k ∧ k ≤ 256 ∧ Hid (J k wr))
    (fun p _ => 256 - (intOf p).toNat)
  case atStart => exact ⟨0, rfl, Nat.zero_le _, h0⟩
  case round =>
    obtain ⟨k, rfl, hk, HJ⟩ := hrel
    by_cases hlt : k < 256
    · have hi : (k : Int) < 256 := by omega
      have hYw := hY _ wr HJ.out hlt
      unfold byteN at hYw
      clear hY
      obtain ⟨fn, tmps, assign, body, hy, hR⟩ := hYw
      gi_wp2
      refine hR.mono ?_
      rintro e W3 ⟨rfl, hJ3⟩
      have HJ3 : Hid _ := hJ3
      clear hJ3
      gi_wp2
      go_roundw
      case rel => exact ⟨k + 1, by go_num, by omega, HJ3.out⟩
      case measure => simp [intOf]; omega
    · have hkk : k = 256 := by omega
      gi_wp2
      go_end0
      have hq := HJ.out
      rw [hkk] at hq
      exact ⟨⟨_, rfl⟩, hq⟩
end Go.Proofs.Ytgbdlgogccgciaa
namespace Go.Proofs.Ytgbdlgogccgciaa
open Go.RowKit

/- WHAT SPEAKS OF CELLS ALONE. -/
theorem own_cells {β : Type} {I : β → World → Prop} (h : ∀ s W W', I s W → (∀ (b : Nat) (cs : Array Value) (t : TypeId), W.heap[b]? = some (.cells cs t (0, 0)) → W'.heap[b]? = some (.cells cs t (0, 0))) → W.heap.size ≤ W'.heap.size → I s W') : Own I := fun s X Y row hs hg hrow =>
  h s X Y hs (fun b cs t hb => (hg.block b (Array.getElem?_eq_some_iff.1 hb).1 (fun e' => by obtain ⟨o, ho, hc⟩ := hrow b e'.symm; rw [hb] at ho; cases ho; cases hc)).trans hb) hg.size
theorem heapRow_own {β : Type} (b : Nat) (c : β → Array Value) (t : TypeId) : Own (fun s W => W.heap[b]? = some (.cells (c s) t (0, 0))) := own_cells fun _ _ _ h k _ => k _ _ _ h
/- MANY MARKS OF LOOPS OVER ITERATORS. -/
def markD (D : Nat) : Deferred := { target := .collected D, args := #[] }
/-- Marks are taken, one after another: what is no mark stays. -/
theorem leaves_marks {n : Nat} {P : Program} {fn : Func} {tmps : Array Value} {R : Ending → World → Prop} : ∀ (Ds : List Nat) (W : World), Ds.Nodup → (∀ D ∈ Ds, W.heap[D]? = some (.deferred (some []))) →
    (∀ W', (∀ k, k ∉ Ds → W'.heap[k]? = W.heap[k]?) → W'.heap.size = W.heap.size → W'.os = W.os → W'.tape = W.tape → W'.output = W.output → LeavesInM Fence.wide n P fn tmps R [] .returning W') →
    LeavesInM Fence.wide n P fn tmps R (Ds.map markD) .returning W
  | [], W, _, _, h => h W (fun _ _ => rfl) rfl rfl rfl rfl
  | D :: Ds, W, hnd, hd, h => by
    have h1 := hd D (by simp)
    refine ⟨by simp, .inl ⟨D, _, rfl, run_takeDeferred h1, ?_⟩⟩
    have hn := List.nodup_cons.1 hnd
    refine leaves_marks Ds _ hn.2 (fun D' hD' => ?_) (fun W' hk hsz ho ht hu => h W' (fun k hkn => ?_) (hsz.trans (by simp)) (ho.trans rfl) (ht.trans rfl) (hu.trans rfl))
    · exact (World.putObj_heap_other (fun e : D' = D => hn.1 (e ▸ hD'))).trans (hd D' (by simp [hD']))
    · rw [hk k (fun e => hkn (by simp [e])), World.putObj_heap_other (fun e : k = D => hkn (by simp [e]))]
end Go.Proofs.Ytgbdlgogccgciaa
