import Derived.Test.YtipndbhedaknnaaDoorPrgR
namespace Go.Proofs.YtipndbhedaknnaaDoor
open Go.RowKit

/-- 'append(s, x)', one element of sz cells, onto a row of the call's own or nil; the world is told by an equation. -/
theorem wpList_append_szW {P : Program} {ops : Array Oper} {rest : List Oper} {o : Oper} {a : Act} {Q : Exit → Act → World → Prop} {W : World} (hgd : o.guard = none) (s x : Operand) (t : TypeId)
    (ho : o.op = .call { callee := .builtin .append, args := #[s, x], argTypes := #[t, t] }) (w : World) (us : Array Value) (e : TypeId) (hW : W = w.alloc (.cells us e)) (H : Nat) (hH : w.heap.size = H)
    (base : Nat) (i : TypeInfo) (z : Value) (sz bytes : Nat) (ht : P.underlying t = some (.slice e)) (hi : P.info? e = some i) (hz : i.zero = some z)
    (hsize : i.size = sz) (hby : i.bytes = bytes) (hzs : z.cells.size = sz) (hsz : 0 < sz)
    (v : Value) (n : Nat) (xs : List Value) (hs : a.eval s = v) (hown : w.ownsRow base e sz v n xs)
    (hx : a.eval x = .slice (some ⟨H, 0, none⟩) 1 1) (hl : us.size = sz) (h1 : ∀ u ∈ us.toList, u.oneCell' = true) (hn : n ≤ 2000000) (hbytes : bytes ≤ 1000) (hbase : base ≤ w.heap.size)
    (h : ∀ g' cap' w', w'.ownsRow base e sz (.slice (some ⟨g', 0, none⟩) (n + 1) cap') (n + 1) (xs ++ us.toList) → w.grownBy w' v.ownBlock → (v.ownBlock = some g' ∨ w.heap.size ≤ g') → wpList P ops Q rest (a.put o.dst (.slice (some ⟨g', 0, none⟩) (n + 1) cap')) w') :
    wpList P ops Q (o :: rest) a W := by
  subst hW hH
  refine wpList_append_lies _ hgd s x t ho base e i z sz bytes ht hi hz hsize hby hzs hsz v n xs hs (hown.alloc _) ⟨w.heap.size, 0, none⟩ 1 1 us.toList hx (by simp [hl]) ?_ h1 (by omega) (by unfold maxLen; omega) ?_ (by simp; omega) (w.heap.size + 1) (by simp) ?_
  · intro j y hv
    have e1 : (⟨w.heap.size, 0, none⟩ : Addr).add j = ⟨w.heap.size, j, none⟩ := by unfold Addr.add; split <;> simp_all
    rw [e1, cell_of_row _ _ _ _ _ _ (heap_alloc_new w _)]
    rw [← hv]
    simp
  · have : (n + 1) * bytes ≤ 2000001 * 1000 := Nat.mul_le_mul (by omega) hbytes
    omega
  · intro g' cap' w' ho2 hgr hat hlt
    refine h g' cap' w' ho2 ⟨hgr.os, hgr.tape, hgr.output, Nat.le_trans (by simp) hgr.size, fun k hk hne => ?_⟩ ?_
    · rw [hgr.block k (by simp; omega) hne, Below.heap_alloc _ _ _ hk]
    · rcases hat with hat | hat
      · exact .inl hat
      · exact .inr (by omega)
/-- The same as a step of a region that draws its order. -/
theorem step_append_szW {P : Program} {ops : Array Oper} {o : Oper} {a : Act} {K : Act → World → Prop} {Q : Exit → Act → World → Prop} {E : Prop} {W : World} (hgd : o.guard = none) (s x : Operand) (t : TypeId)
    (ho : o.op = .call { callee := .builtin .append, args := #[s, x], argTypes := #[t, t] }) (w : World) (us : Array Value) (e : TypeId) (hW : W = w.drew.alloc (.cells us e) ∨ W = (w.alloc (.cells us e)).drew) (H : Nat) (hH : w.heap.size = H)
    (base : Nat) (i : TypeInfo) (z : Value) (sz bytes : Nat) (ht : P.underlying t = some (.slice e)) (hi : P.info? e = some i) (hz : i.zero = some z)
    (hsize : i.size = sz) (hby : i.bytes = bytes) (hzs : z.cells.size = sz) (hsz : 0 < sz)
    (v : Value) (n : Nat) (xs : List Value) (hs : a.eval s = v) (hown : w.ownsRow base e sz v n xs)
    (hx : a.eval x = .slice (some ⟨H, 0, none⟩) 1 1) (hl : us.size = sz) (h1 : ∀ u ∈ us.toList, u.oneCell' = true) (hn : n ≤ 2000000) (hbytes : bytes ≤ 1000) (hbase : base ≤ w.heap.size)
    (h : ∀ g' cap' w', w'.ownsRow base e sz (.slice (some ⟨g', 0, none⟩) (n + 1) cap') (n + 1) (xs ++ us.toList) → w.grownBy w' v.ownBlock → (v.ownBlock = some g' ∨ w.heap.size ≤ g') → K (a.put o.dst (.slice (some ⟨g', 0, none⟩) (n + 1) cap')) w') :
    if Region.wanted o (yielded ops a.tmps) = true then Oper.wp P o a W K Q else E := by
  subst hH
  have hWs : W.heap.size = w.heap.size + 1 := by rcases hW with rfl | rfl <;> simp
  have hrow : W.heap[w.heap.size]? = some (.cells us e (0, 0)) := by
    rcases hW with rfl | rfl
    · exact heap_alloc_new w.drew _
    · exact row_drew (heap_alloc_new w _)
  have hold : ∀ k, k < w.heap.size → W.heap[k]? = w.heap[k]? := by
    intro k hk
    rcases hW with rfl | rfl
    · exact Below.heap_alloc w.drew _ _ hk
    · exact Below.heap_alloc w _ _ hk
  have hos : W.os = w.os ∧ W.tape = w.tape ∧ W.output = w.output := by rcases hW with rfl | rfl <;> exact ⟨rfl, rfl, rfl⟩
  refine step_append_lies _ hgd s x t ho base e i z sz bytes ht hi hz hsize hby hzs hsz v n xs hs (ownsRow_keep hown fun b hb => hold b (ownsRow_blk hown hb).2) ⟨w.heap.size, 0, none⟩ 1 1 us.toList hx (by simp [hl]) ?_ h1 (by omega) (by unfold maxLen; omega) ?_ (by omega) (w.heap.size + 1) hWs ?_
  · intro j y hv
    have e1 : (⟨w.heap.size, 0, none⟩ : Addr).add j = ⟨w.heap.size, j, none⟩ := by unfold Addr.add; split <;> simp_all
    rw [e1, cell_of_row _ _ _ _ _ _ hrow]
    rw [← hv]
    simp
  · have : (n + 1) * bytes ≤ 2000001 * 1000 := Nat.mul_le_mul (by omega) hbytes
    omega
  · intro g' cap' w' ho2 hgr hat hlt
    refine h g' cap' w' ho2 ⟨hgr.os.trans hos.1, hgr.tape.trans hos.2.1, hgr.output.trans hos.2.2, Nat.le_trans (by omega) hgr.size, fun k hk hne => ?_⟩ ?_
    · rw [hgr.block k (by omega) hne, hold k hk]
    · rcases hat with hat | hat
      · exact .inl hat
      · exact .inr (by omega)
/-- The append of a case as one word (so that a walk takes its law). -/
def appC (ats : Array TypeId) (ty : TypeId) (args : Array Value) : Sem Value := Builtin.append_ ats ty args
theorem append_appC (ty : TypeId) (args : Array Value) : Builtin.append_ #[43, 43] ty args = appC #[43, 43] ty args := rfl
theorem appC_run {P : Program} (t : TypeId) (w : World) (us : Array Value) (e : TypeId) (ty : TypeId)
    (base : Nat) (i : TypeInfo) (z : Value) (sz bytes : Nat) (ht : P.underlying t = some (.slice e)) (hi : P.info? e = some i) (hz : i.zero = some z)
    (hsize : i.size = sz) (hby : i.bytes = bytes) (hzs : z.cells.size = sz) (hsz : 0 < sz)
    (v : Value) (n : Nat) (xs : List Value) (hown : w.ownsRow base e sz v n xs) (hl : us.size = sz) (h1 : ∀ u ∈ us.toList, u.oneCell' = true) (hn : n ≤ 2000000) (hbytes : bytes ≤ 1000) (hbase : base ≤ w.heap.size) :
    ∃ g' cap' w', (appC #[t, t] ty #[v, .slice (some ⟨w.heap.size, 0, none⟩) 1 1]).run P ((w.alloc (.cells us e)).drew) = .ok (.slice (some ⟨g', 0, none⟩) (n + 1) cap') w' ∧
      w'.ownsRow base e sz (.slice (some ⟨g', 0, none⟩) (n + 1) cap') (n + 1) (xs ++ us.toList) ∧ w.grownBy w' v.ownBlock ∧ (v.ownBlock = some g' ∨ w.heap.size ≤ g') := by
  have hrow : ((w.alloc (.cells us e)).drew).heap[w.heap.size]? = some (.cells us e (0, 0)) := row_drew (heap_alloc_new w _)
  have hsz' : ((w.alloc (.cells us e)).drew).heap.size = w.heap.size + 1 := by simp
  obtain ⟨g', cap', w', hr, ho, hg, ha, _⟩ := run_append_lies (P := P) ((w.alloc (.cells us e)).drew) t ty base e i z sz bytes ht hi hz hsize hby hzs hsz v n xs (ownsRow_keep hown fun b hb => Below.heap_alloc w _ _ (ownsRow_blk hown hb).2) ⟨w.heap.size, 0, none⟩ 1 1 us.toList (by simp [hl]) (by
    intro j y hv
    have e1 : (⟨w.heap.size, 0, none⟩ : Addr).add j = ⟨w.heap.size, j, none⟩ := by unfold Addr.add; split <;> simp_all
    rw [e1, cell_of_row _ _ _ _ _ _ hrow, ← hv]
    simp) h1 (by omega) (by unfold maxLen; omega) (by have : (n + 1) * bytes ≤ 2000001 * 1000 := Nat.mul_le_mul (by omega) hbytes; omega) (by omega) (w.heap.size + 1) hsz'
  refine ⟨g', cap', w', hr, ho, ⟨hg.os, hg.tape, hg.output, Nat.le_trans (by omega) hg.size, fun k hk hne => ?_⟩, ?_⟩
  · rw [hg.block k (by omega) hne]; exact Below.heap_alloc w _ _ hk
  · rcases ha with ha | ha
    · exact .inl ha
    · exact .inr (by omega)
theorem Tryd.infoState : (Tryd.prog.info? 45).map (fun i => (i.zero, i.size, i.bytes)) = some (some (.agg #[.slice none 0 0, .int .i64 0, .int .i64 0, .int .i64 0, .string ⟨#[]⟩, .bool false, .int .i64 0, .int .i64 0, .string ⟨#[]⟩, .int .i64 0]), 10, 112) := by kernel_rfl
theorem Tryd.infoCase : (Tryd.prog.info? 47).map (fun i => (i.zero, i.size, i.bytes)) = some (some (.agg #[.string ⟨#[]⟩, .int .i64 0, .int .i64 0, .string ⟨#[]⟩]), 4, 48) := by kernel_rfl
/- ONE LINE, BY ITS KEY. -/
theorem nil_or_last (ss : List StD) : ss = [] ∨ ∃ ini s, ss = ini ++ [s] := by
  rcases List.eq_nil_or_concat ss with h | ⟨ini, s, h⟩
  · exact .inl h
  · exact .inr ⟨ini, s, by rw [h, List.concat_eq_append]⟩
variable {t rb : ByteArray} {k : Nat} {lim most : Int} {ss ini : List StD} {s : StD} {x y : Int} {tx : List UInt8} {a : ActD}
theorem PrgSt.ordL (h : PrgSt t k ⟨lim, most, ss⟩) (hl : LineAt t k rb) (hs : skipF ((cutF 10 t.data.toList)[k]'(hl.lt)) = false) (hb : readF rb.data.toList = (⟨108, x, y, tx, a⟩, true)) (h1 : lim > 0) : progF t = (.zero, 3, (k : Int) + 1) :=
  h.order hl hs hb (by simp [orderF]; omega)
theorem PrgSt.ordS (h : PrgSt t k ⟨lim, most, ss⟩) (hl : LineAt t k rb) (hs : skipF ((cutF 10 t.data.toList)[k]'(hl.lt)) = false) (hb : readF rb.data.toList = (⟨115, x, y, tx, a⟩, true)) (h1 : ¬lim > 0) : progF t = (.zero, 3, (k : Int) + 1) :=
  h.order hl hs hb (by simp [orderF]; omega)
theorem PrgSt.ordN {key : Int} (h : PrgSt t k ⟨lim, most, ss⟩) (hl : LineAt t k rb) (hs : skipF ((cutF 10 t.data.toList)[k]'(hl.lt)) = false) (hb : readF rb.data.toList = (⟨key, x, y, tx, a⟩, true)) (hk : key = 111 ∨ key = 116 ∨ key = 102) (h1 : ¬lim > 0) : progF t = (.zero, 3, (k : Int) + 1) :=
  h.order hl hs hb (by
    have : decide (lim > 0) = false := decide_eq_false h1
    rcases hk with rfl | rfl | rfl <;> simp [orderF, this])
theorem PrgSt.ordE {key : Int} (h : PrgSt t k ⟨lim, most, []⟩) (hl : LineAt t k rb) (hs : skipF ((cutF 10 t.data.toList)[k]'(hl.lt)) = false) (hb : readF rb.data.toList = (⟨key, x, y, tx, a⟩, true)) (hk : key = 111 ∨ key = 116 ∨ key = 102) : progF t = (.zero, 3, (k : Int) + 1) :=
  h.order hl hs hb (by rcases hk with rfl | rfl | rfl <;> simp [orderF])
theorem PrgSt.ordT (h : PrgSt t k ⟨lim, most, ini ++ [s]⟩) (hl : LineAt t k rb) (hs : skipF ((cutF 10 t.data.toList)[k]'(hl.lt)) = false) (hb : readF rb.data.toList = (⟨116, x, y, tx, a⟩, true)) (h1 : s.tmo > 0) : progF t = (.zero, 3, (k : Int) + 1) :=
  h.order hl hs hb (by
    have : decide (0 < s.tmo) = true := decide_eq_true h1
    simp [orderF, lastT_eq, this])
theorem PrgSt.ordF (h : PrgSt t k ⟨lim, most, ini ++ [s]⟩) (hl : LineAt t k rb) (hs : skipF ((cutF 10 t.data.toList)[k]'(hl.lt)) = false) (hb : readF rb.data.toList = (⟨102, x, y, tx, a⟩, true)) (h1 : s.full = true) : progF t = (.zero, 3, (k : Int) + 1) :=
  h.order hl hs hb (by simp [orderF, lastF_eq, h1])
theorem PrgSt.manS (h : PrgSt t k ⟨lim, most, ss⟩) (hl : LineAt t k rb) (hs : skipF ((cutF 10 t.data.toList)[k]'(hl.lt)) = false) (hb : readF rb.data.toList = (⟨115, x, y, tx, a⟩, true)) (h1 : lim > 0) (h2 : ss.length = 200) : progF t = (.zero, 4, (k : Int) + 1) :=
  h.many hl hs hb (by simp [orderF]; omega) (by simp [manyF, h2])
theorem PrgSt.manO (h : PrgSt t k ⟨lim, most, ini ++ [s]⟩) (hl : LineAt t k rb) (hs : skipF ((cutF 10 t.data.toList)[k]'(hl.lt)) = false) (hb : readF rb.data.toList = (⟨111, x, y, tx, a⟩, true)) (h1 : lim > 0) (h2 : s.cases.length = 100) : progF t = (.zero, 4, (k : Int) + 1) :=
  h.many hl hs hb (by simp [orderF]; omega) (by simp [manyF, lastC_eq, h2])
theorem PrgSt.stpL (h : PrgSt t k ⟨lim, most, ss⟩) (hl : LineAt t k rb) (hs : skipF ((cutF 10 t.data.toList)[k]'(hl.lt)) = false) (hb : readF rb.data.toList = (⟨108, x, y, tx, a⟩, true)) (h1 : ¬lim > 0) : PrgSt t (k + 1) ⟨x, y, ss⟩ :=
  ⟨h.step hl hs hb (by simp [orderF]; omega) (by simp [manyF]), h.few, h.fewc⟩
theorem PrgSt.stpS (h : PrgSt t k ⟨lim, most, ss⟩) (hl : LineAt t k rb) (hs : skipF ((cutF 10 t.data.toList)[k]'(hl.lt)) = false) (hb : readF rb.data.toList = (⟨115, x, y, tx, a⟩, true)) (h1 : lim > 0) (h2 : ¬ss.length = 200) : PrgSt t (k + 1) ⟨lim, most, ss ++ [.new x]⟩ :=
  ⟨h.step hl hs hb (by simp [orderF]; omega) (by simp [manyF, h2]), by have := h.few; simp at this ⊢; omega, fun s hs => by
    simp at hs
    rcases hs with hs | rfl
    · exact h.fewc s hs
    · simp [StD.new]⟩
theorem PrgSt.last {f : StD → StD} (h : PrgSt t k ⟨lim, most, ini ++ [s]⟩) (he : progF t = progL (k + 1) ⟨lim, most, onLast f (ini ++ [s])⟩ ((cutF 10 t.data.toList).drop (k + 1))) (hc : (f s).cases.length ≤ 100) : PrgSt t (k + 1) ⟨lim, most, ini ++ [f s]⟩ := by
  rw [onLast_eq] at he
  refine ⟨he, by have := h.few; simpa using this, fun q hq => ?_⟩
  simp at hq
  rcases hq with hq | rfl
  · exact h.fewc q (by simp [hq])
  · exact hc
theorem PrgSt.stpO (h : PrgSt t k ⟨lim, most, ini ++ [s]⟩) (hl : LineAt t k rb) (hs : skipF ((cutF 10 t.data.toList)[k]'(hl.lt)) = false) (hb : readF rb.data.toList = (⟨111, x, y, tx, a⟩, true)) (h1 : lim > 0) (h2 : ¬s.cases.length = 100) : PrgSt t (k + 1) ⟨lim, most, ini ++ [{ s with cases := s.cases ++ [⟨tx, a⟩] }]⟩ :=
  h.last (f := fun s => { s with cases := s.cases ++ [⟨tx, a⟩] }) (h.step hl hs hb (by simp [orderF]; omega) (by simp [manyF, lastC_eq, h2])) (by have := h.fewc s (by simp); simp; omega)
theorem PrgSt.stpT (h : PrgSt t k ⟨lim, most, ini ++ [s]⟩) (hl : LineAt t k rb) (hs : skipF ((cutF 10 t.data.toList)[k]'(hl.lt)) = false) (hb : readF rb.data.toList = (⟨116, x, y, tx, a⟩, true)) (h1 : lim > 0) (h2 : ¬s.tmo > 0) : PrgSt t (k + 1) ⟨lim, most, ini ++ [{ s with tmo := x, onT := a }]⟩ :=
  h.last (f := fun s => { s with tmo := x, onT := a }) (h.step hl hs hb (by simp [orderF, lastT_eq]; omega) (by simp [manyF])) (h.fewc s (by simp))
theorem PrgSt.stpF (h : PrgSt t k ⟨lim, most, ini ++ [s]⟩) (hl : LineAt t k rb) (hs : skipF ((cutF 10 t.data.toList)[k]'(hl.lt)) = false) (hb : readF rb.data.toList = (⟨102, x, y, tx, a⟩, true)) (h1 : lim > 0) (h2 : s.full = false) : PrgSt t (k + 1) ⟨lim, most, ini ++ [{ s with full := true, onF := a }]⟩ :=
  h.last (f := fun s => { s with full := true, onF := a }) (h.step hl hs hb (by simp [orderF, lastF_eq, h2]; omega) (by simp [manyF])) (h.fewc s (by simp))
end Go.Proofs.YtipndbhedaknnaaDoor
