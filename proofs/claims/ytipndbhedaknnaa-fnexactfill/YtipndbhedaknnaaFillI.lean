import Derived.Test.YtipndbhedaknnaaFillN
import Derived.Maps.AppendAt
namespace Go.Proofs.Ytipndbhedaknnaa
open Go.RowKit Go.Shelf
attribute [local go_sem] Oper.semAt_some

theorem wpListIn_append_str {F : Fence} {n' : Nat} {P : Program} {ops : Array Oper} {rest : List Oper} {o : Oper} {a : Act} {Q : Exit → Act → World → Prop} (w : World) (hgd : o.guard = none) (sl x : Operand) (t u : TypeId)
    (ho : o.op = .call { callee := .builtin .append, args := #[sl, x], argTypes := #[t, u] })
    (base : Nat) (e : TypeId) (i : TypeInfo) (ht : P.underlying t = some (.slice e)) (hu : P.underlying u = some .string) (hi : P.info? e = some i) (hz : i.zero = some (.int .u8 0))
    (hsize : i.size = 1) (hby : i.bytes = 1)
    (v : Value) (n : Nat) (xs : List Value) (hs : a.eval sl = v) (hown : w.ownsRow base e 1 v n xs) (s : ByteArray) (hx : a.eval x = .string s)
    (h63 : n + s.size ≤ maxLen) (hbytes : n + s.size ≤ 140737488355328) (hbase : base ≤ w.heap.size)
    (h : ∀ v' w', w'.ownsRow base e 1 v' (n + s.size) (xs ++ Lib.strCells s) → w.grownBy w' v.ownBlock → (v' = .slice none 0 0 ↔ v = .slice none 0 0 ∧ s.size = 0) → wpListIn F n' P ops Q rest (a.put o.dst v') w') : wpListIn F n' P ops Q (o :: rest) a w := by
  refine wpListIn_plain hgd fun K hK => ?_
  obtain ⟨v', w', hr, h2, h3, h4⟩ := Lib.run_append_own_string (P := P) w base t u o.type e i ht hu hi hz hsize hby v n xs hown s h63 hbytes hbase
  unfold Oper.wpIn
  refine ⟨?_, ?_⟩
  · simp [Oper.about, ho, resolve, Target.leads, Sem.run_pure]
  · rw [Oper.semAt_plain F _ _ (by rw [ho]; intro c hc'; cases hc')]
    simp [execOp, ho, resolve, invoke, builtin, hs, hx, hr, Result.andThen]
    exact hK _ _ (h v' w' h2 h3 h4)
def bytesV (l : List UInt8) : List Value := l.map fun b => Value.int .u8 b.toNat
theorem bytesV_app (a b : List UInt8) : bytesV (a ++ b) = bytesV a ++ bytesV b := by simp [bytesV]
theorem strC (s : ByteArray) : Lib.strCells s = bytesV s.data.toList := rfl
theorem slice_form {W : World} {B : Nat} {e : TypeId} {v : Value} {n : Nat} {xs : List Value} (h : W.ownsRow B e 1 v n xs) (hn : ¬v = .slice none 0 0) : ∃ g cap, v = .slice (some ⟨g, 0, none⟩) n cap := by
  rcases h.2 with ⟨h0, _⟩ | ⟨g, cap, _, rfl, _⟩
  · exact absurd h0 hn
  · exact ⟨g, cap, rfl⟩
theorem bytes_add {W : World} {B g n cap : Nat} {e : TypeId} {l : List UInt8} (h : W.ownsRow B e 1 (.slice (some ⟨g, 0, none⟩) n cap) n (bytesV l)) {l' : List UInt8} (hp : l' <+: l) :
    ∀ j (hj : j < l'.length), W.cell? ((⟨g, 0, none⟩ : Addr).add j) = some (.int .u8 (l'[j].toNat : Int)) := by
  intro j hj
  refine h.cells rfl j _ ?_
  obtain ⟨r, rfl⟩ := hp
  rw [bytesV_app, List.getElem?_append_left (by simpa [bytesV] using hj)]
  simp [bytesV, hj]
/-- The blocks of Fill. -/
def FillB (w : World) (tm tx : ByteArray) (v : Value) (W : World) : Prop :=
  (Boxed W w.heap.size 9 (.string tx) ∧ Boxed W (w.heap.size + 1) 25 v) ∧ (Boxed W (w.heap.size + 1 + 1) 9 (.string ⟨#[]⟩) ∧ Boxed W (w.heap.size + 1 + 1 + 1 + 1 + 1) 9 (.string tm))
theorem fillB_own {β : Type} (B : Nat) (w : World) (tm tx : ByteArray) (v : Value) : OwnFrom B (fun (_ : β) W => FillB w tm tx v W) :=
  OwnFrom.and (OwnFrom.and (Own.from (boxed_own _ _ _) _) (Own.from (boxed_own _ _ _) _)) (OwnFrom.and (Own.from (boxed_own _ _ _) _) (Own.from (boxed_own _ _ _) _))
theorem cells_own {β : Type} (B : Nat) (c : Array Value) (t : TypeId) : Own (fun (_ : β) W => W.heap[B]? = some (.cells c t (0, 0))) := fun s X Y row hs hg hrow =>
  (hg.block B (Array.getElem?_eq_some_iff.1 hs).1 (fun e' => by obtain ⟨o, ho, hc⟩ := hrow B e'.symm; rw [hs] at ho; cases ho; cases hc)).trans hs
def fillW (w : World) (tm tx : ByteArray) (v : Value) : World := (((((w.alloc (.cells #[.string tx] 9)).alloc (.cells #[v] 25)).alloc (.cells #[.string ⟨#[]⟩] 9)).alloc (.cells #[] 5)).alloc (.cells #[.slice (some ⟨w.heap.size + 1 + 1 + 1, 0, none⟩) 0 0] 35)).alloc (.cells #[.string tm] 9)
theorem fill_size (w : World) (tm tx : ByteArray) (v : Value) : (fillW w tm tx v).heap.size = w.heap.size + 1 + 1 + 1 + 1 + 1 + 1 := by unfold fillW; simp
theorem fill_low (w : World) (tm tx : ByteArray) (v : Value) : Below w.heap.size w (fillW w tm tx v) :=
  ((((((Below.refl _ w).alloc (Nat.le_refl _) _).alloc (by simp) _).alloc (by simp; omega) _).alloc (by simp; omega) _).alloc (by simp; omega) _).alloc (by simp; omega) _
theorem fill_blocks (w : World) (tm tx : ByteArray) (v : Value) : FillB w tm tx v (fillW w tm tx v) := by
  have a := Boxed.new w 9 (.string tx)
  have b := Boxed.new (w.alloc (.cells #[.string tx] 9)) 25 v
  have c := Boxed.new ((w.alloc (.cells #[.string tx] 9)).alloc (.cells #[v] 25)) 9 (.string ⟨#[]⟩)
  have f := Boxed.new (((((w.alloc (.cells #[.string tx] 9)).alloc (.cells #[v] 25)).alloc (.cells #[.string ⟨#[]⟩] 9)).alloc (.cells #[] 5)).alloc (.cells #[.slice (some ⟨w.heap.size + 1 + 1 + 1, 0, none⟩) 0 0] 35)) 9 (.string tm)
  simp only [World.size_alloc] at b c f
  exact ⟨⟨((((a.alloc _).alloc _).alloc _).alloc _).alloc _, (((b.alloc _).alloc _).alloc _).alloc _⟩, ((c.alloc _).alloc _).alloc _, f⟩
theorem fill_row (w : World) (tm tx : ByteArray) (v : Value) : Boxed (fillW w tm tx v) (w.heap.size + 1 + 1 + 1 + 1) 35 (.slice (some ⟨w.heap.size + 1 + 1 + 1, 0, none⟩) 0 0) ∧ (fillW w tm tx v).ownsRow (w.heap.size + 1 + 1 + 1) 5 1 (.slice (some ⟨w.heap.size + 1 + 1 + 1, 0, none⟩) 0 0) 0 [] := by
  have a := Boxed.new ((((w.alloc (.cells #[.string tx] 9)).alloc (.cells #[v] 25)).alloc (.cells #[.string ⟨#[]⟩] 9)).alloc (.cells #[] 5)) 35 (.slice (some ⟨w.heap.size + 1 + 1 + 1, 0, none⟩) 0 0)
  have b := ownsRow_new_at (((w.alloc (.cells #[.string tx] 9)).alloc (.cells #[v] 25)).alloc (.cells #[.string ⟨#[]⟩] 9)) 5 (w.heap.size + 1 + 1 + 1) (w.heap.size + 1 + 1 + 1) (Nat.le_refl _) (by simp)
  simp only [World.size_alloc] at a
  exact ⟨a.alloc _, (b.alloc _).alloc _⟩
theorem FillB.kept {w W W' : World} {tm tx : ByteArray} {v : Value} {row : Option Nat} (h : FillB w tm tx v W) (hg : W.grownBy W' row) (h0 : some w.heap.size ≠ row) (h1 : some (w.heap.size + 1) ≠ row) (h2 : some (w.heap.size + 1 + 1) ≠ row) (h5 : some (w.heap.size + 1 + 1 + 1 + 1 + 1) ≠ row) : FillB w tm tx v W' :=
  ⟨⟨h.1.1.kept hg h0, h.1.2.kept hg h1⟩, h.2.1.kept hg h2, h.2.2.kept hg h5⟩
theorem FillB.alloc {w W : World} {tm tx : ByteArray} {v : Value} (h : FillB w tm tx v W) (o : Obj) : FillB w tm tx v (W.alloc o) := h.kept (World.grownBy_alloc W o none) (by simp) (by simp) (by simp) (by simp)
theorem fill_app {w W W2 w1 : World} {tm tx : ByteArray} {v0 v v' : Value} {k m : Nat} {xs ys : List Value} (hB : FillB w tm tx v0 W) (hv : Boxed W (w.heap.size + 1 + 1 + 1 + 1) 35 v)
    (hr : W.ownsRow (w.heap.size + 1 + 1 + 1) 5 1 v k xs) (hl : Below w.heap.size w W) (h2 : W.grownBy W2 none) (hg : W2.grownBy w1 v.ownBlock) (ho : w1.ownsRow (w.heap.size + 1 + 1 + 1) 5 1 v' m ys) :
    Boxed w1 (w.heap.size + 1 + 1 + 1 + 1) 35 v ∧ FillB w tm tx v0 (w1.setCell ⟨w.heap.size + 1 + 1 + 1 + 1, 0, none⟩ v') ∧ Boxed (w1.setCell ⟨w.heap.size + 1 + 1 + 1 + 1, 0, none⟩ v') (w.heap.size + 1 + 1 + 1 + 1) 35 v' ∧
      (w1.setCell ⟨w.heap.size + 1 + 1 + 1 + 1, 0, none⟩ v').ownsRow (w.heap.size + 1 + 1 + 1) 5 1 v' m ys ∧ KeepsOthers W (w1.setCell ⟨w.heap.size + 1 + 1 + 1 + 1, 0, none⟩ v') ∧ Below w.heap.size w (w1.setCell ⟨w.heap.size + 1 + 1 + 1 + 1, 0, none⟩ v') := by
  have hr2 : W2.ownsRow (w.heap.size + 1 + 1 + 1) 5 1 v k xs := hr.kept h2 (by by_cases h : v.ownBlock = none; exact .inl h; exact .inr h)
  have hv2 : Boxed W2 (w.heap.size + 1 + 1 + 1 + 1) 35 v := hv.kept h2 (by simp)
  have hB2 : FillB w tm tx v0 W2 := hB.kept h2 (by simp) (by simp) (by simp) (by simp)
  have hv1 := hv2.kept hg (hv2.not_row (by decide) hr2)
  have hB1 : FillB w tm tx v0 w1 := hB2.kept hg (hB2.1.1.not_row (by decide) hr2) (hB2.1.2.not_row (by decide) hr2) (hB2.2.1.not_row (by decide) hr2) (hB2.2.2.not_row (by decide) hr2)
  have hsz := hl.size
  refine ⟨hv1, hB1.kept (grownBy_setCell' _ _ _) (by simp; omega) (by simp) (by simp) (by simp), hv1.set v', ho.kept (grownBy_setCell' _ _ _) (.inr (hv1.not_row (by decide) ho).symm), ?_, ?_⟩
  · refine ((KeepsOthers.of_grownBy h2 fun j o ej => by cases ej).trans (KeepsOthers.of_grownBy hg fun j o ej hj => ?_)).trans (KeepsOthers.setCell _ _ _)
    rcases hr2.2 with ⟨rfl, _⟩ | ⟨g, cap, cur, rfl, _, hgb, _⟩
    · simp [Value.ownBlock] at ej
    · obtain rfl : g = j := by simpa [Value.ownBlock] using ej
      rw [hgb] at hj; cases hj; rfl
  · refine ((hl.grown h2 hsz fun j ej => by cases ej).grown hg (Nat.le_trans hsz h2.size) fun j ej => ?_).setCell (p := ⟨w.heap.size + 1 + 1 + 1 + 1, 0, none⟩) (by simp; omega) v'
    have := (hr2.lt j ej).1
    omega
theorem FillB.lies {w W W' : World} {tm tx : ByteArray} {v : Value} (h : FillB w tm tx v W) (h' : FillB w tm tx v W') : Lies (w.heap.size + 1 + 1 + 1 + 1 + 1) W W' := fun o ho => by
  have a : W.heap[w.heap.size + 1 + 1 + 1 + 1 + 1]? = _ := h.2.2
  have b : W'.heap[w.heap.size + 1 + 1 + 1 + 1 + 1]? = _ := h'.2.2
  rw [a] at ho
  rw [b, ho]
theorem outB_size (tx : ByteArray) (sp : List (Int × Int)) (x : Mk) (h : tx.size ≤ 4096) : (outB tx sp x).size ≤ 4096 := by
  cases x
  · show 1 ≤ 4096; omega
  · show (grpB tx sp _).size ≤ 4096
    unfold grpB
    split
    · rw [ByteArray.size_extract]; omega
    · show 0 ≤ 4096; omega
theorem grownBy_drewN' (W : World) (q : Nat) : W.grownBy (W.drewN q) none := ⟨rfl, rfl, rfl, Nat.le_refl _, fun _ _ _ => rfl⟩
/-- A string appended to a slice of bytes, as one word (so that the walk takes its law). -/
def appS (ats : Array TypeId) (ty : TypeId) (args : Array Value) : Sem Value := Builtin.append_ ats ty args
theorem append_appS (ty : TypeId) (args : Array Value) : Builtin.append_ #[35, 9] ty args = appS #[35, 9] ty args := rfl
attribute [local go_sem ↓] append_appS
theorem Try.infoByte : (Try.prog.info? 5).map (fun i => (i.zero, i.size, i.bytes)) = some (some (.int .u8 0), 1, 1) := by kernel_rfl

set_option maxRecDepth 100000 in
set_option maxHeartbeats 4000000 in
theorem implFill_ok {lo : Nat} (tm tx : ByteArray) (v : Value) (sp : List (Int × Int)) (w : World) (hs : RangesAt lo w v sp) (hm1 : tm.size ≤ 1048576) (hm2 : tx.size ≤ 1048576) (_hm3 : sp.length ≤ 1048576) :
    Calls Try.prog 7 #[.string tm, .string tx, v] w fun e w' => e = .returned (.string (fillF tm tx sp)) ∧ Below w.heap.size w w' := by
  by_cases g1 : 1000 < (tm.size : Int)
  · have H : Hid (fillF tm tx sp = ⟨#[]⟩) := by show _ = _; unfold fillF; rw [if_pos (.inl (by omega))]
    obtain ⟨ao, cap, rfl, hm, hc⟩ := hs
    go_enter Try.func7, Try.ntmps7
    go_wp2
    exact bodyPost_ret (v := .string ⟨#[]⟩) (by simp [results, Try.results7, go_sem]) rfl ⟨ret_str H.out.symm, (((Below.refl _ w).alloc (Nat.le_refl _) _).alloc (by simp) _).alloc (by simp; omega) _⟩
  by_cases g2 : 4096 < (tx.size : Int)
  · have H : Hid (fillF tm tx sp = ⟨#[]⟩) := by show _ = _; unfold fillF; rw [if_pos (.inr (by omega))]
    obtain ⟨ao, cap, rfl, hm, hc⟩ := hs
    go_enter Try.func7, Try.ntmps7
    go_wp2
    exact bodyPost_ret (v := .string ⟨#[]⟩) (by simp [results, Try.results7, go_sem]) rfl ⟨ret_str H.out.symm, (((Below.refl _ w).alloc (Nat.le_refl _) _).alloc (by simp) _).alloc (by simp; omega) _⟩
  have H : Hid (fillF tm tx sp = ⟨((outs tx sp (marksL tm.data.toList)).take 1000).toArray⟩) := by show _ = _; unfold fillF; rw [if_neg (by omega), fill_marks]
  obtain ⟨ao, cap, rfl, hm, hc⟩ := hs
  have hs : RangesAt lo w (.slice ao sp.length cap) sp := ⟨_, _, rfl, hm, hc⟩
  refine (callsIn_wide (n := 5)).1 ?_
  refine callsIn_of_wp_marks Try.func7 rfl trivial ?_ rfl
  simp only [Try.ntmps7, List.size_toArray, List.length_cons, List.length_nil, Nat.reduceAdd, Nat.reduceSub, Array.replicate_succ, Array.replicate_zero, List.push_toArray, List.append_toArray, List.nil_append, List.cons_append]
  gi_wp2_with (refine ⟨trivial, ?_⟩; gi_at_call 12; refine (templateMarks_in _ _ _).mono ?_; rintro e w' ⟨rfl, rfl⟩)
  have hsz := fill_size w tm tx (.slice ao sp.length cap)
  have hlow := fill_low w tm tx (.slice ao sp.length cap)
  have hFB := fill_blocks w tm tx (.slice ao sp.length cap)
  obtain ⟨hbx, hrow⟩ := fill_row w tm tx (.slice ao sp.length cap)
  obtain ⟨W0, hW0⟩ : ∃ W0, fillW w tm tx (.slice ao sp.length cap) = W0 := ⟨_, rfl⟩
  rw [show (((((w.alloc (.cells #[.string tx] 9)).alloc (.cells #[.slice ao sp.length cap] 25)).alloc (.cells #[.string ⟨#[]⟩] 9)).alloc (.cells #[] 5)).alloc (.cells #[.slice (some ⟨w.heap.size + 1 + 1 + 1, 0, none⟩) 0 0] 35)).alloc (.cells #[.string tm] 9) = W0 from hW0]
  rw [hW0] at hsz hlow hFB hbx hrow
  clear hW0
  obtain ⟨i0, hi, hz0, hz1, hz2⟩ := info_parts Try.infoByte
  refine wpIn_rangeFunc_ownH rfl (by omega) (gf := 15) (lb := #[.pointer (some ⟨w.heap.size + 1 + 1 + 1 + 1 + 1, 0, none⟩)]) rfl trivial (enters_of Try.func15 (by kernel_rfl) rfl)
    (marks_stops 4 (w.heap.size + 1 + 1 + 1 + 1 + 1) tm hm1 (by omega) W0 hFB.2.2) (fun h k o ho => k o (h o ho)) (fun W l o o' hl h _ _ o2 h2 => (World.putObj_heap_other (by omega)).trans h2) (Below.refl _ _) (fun _ => rfl)
    (fun pre W => FillB w tm tx (.slice ao sp.length cap) W ∧ ((∃ v, Boxed W (w.heap.size + 1 + 1 + 1 + 1) 35 v ∧ W.ownsRow (w.heap.size + 1 + 1 + 1) 5 1 v (outs tx sp pre).length (bytesV (outs tx sp pre)) ∧ (v ≠ .slice none 0 0 ∧ (outs tx sp pre).length < 1000)) ∧ Below w.heap.size w W))
    (fun c pre W => (c = .ret ∧ 1000 ≤ (outs tx sp pre).length) ∧ (Boxed W (w.heap.size + 1 + 1) 9 (.string ⟨((outs tx sp pre).take 1000).toArray⟩) ∧ Below w.heap.size w W))
    (OwnFrom.and (fillB_own _ _ _ _ _) (OwnFrom.and (Own.from (holdsRow_own _ _ _ _ _ (fun pre => (outs tx sp pre).length) (fun pre => bytesV (outs tx sp pre)) (fun pre v => v ≠ .slice none 0 0 ∧ (outs tx sp pre).length < 1000)) _) (ownFrom_below (Nat.le_refl _) (by omega))))
    (fun c => OwnFrom.and (ownFrom_pure _ _) (OwnFrom.and (Own.from (boxed_own _ _ _) _) (ownFrom_below (Nat.le_refl _) (by omega))))
    ⟨hFB, ⟨_, hbx, hrow, by simp, by simp [outs]⟩, hlow⟩
    (fun x a' W => ∃ Bx, w.heap.size + 1 + 1 + 1 + 1 + 1 < Bx ∧ W.heap[Bx]? = some (.cells x.cells 39 (0, 0)) ∧ a' = { tmps := #[.string tm, .string tx, .slice ao sp.length cap, undef, .pointer (some ⟨w.heap.size, 0, none⟩), .pointer (some ⟨w.heap.size + 1, 0, none⟩), .pointer (some ⟨w.heap.size + 1 + 1, 0, none⟩), .pointer (some ⟨w.heap.size + 1 + 1 + 1 + 1, 0, none⟩), .pointer (some ⟨Bx, 0, none⟩), .string tm, .int .i64 tm.size, .bool false, .bool false, .string tx, .int .i64 tx.size, .bool false, .bool false, .slice (some ⟨w.heap.size + 1 + 1 + 1, 0, none⟩) 0 0, .string tm, .func (.func 15) #[] #[.pointer (some ⟨w.heap.size + 1 + 1 + 1 + 1 + 1, 0, none⟩)], .agg x.cells, undef, undef, undef, undef, undef, undef, undef, undef, undef, undef, undef, undef, undef, undef, undef, undef, undef, undef, undef, undef, undef, undef, undef], defers := [] })
    (fun x a' _ X Y row hs hg hr => by obtain ⟨Bx, h1, h2, h3⟩ := hs; exact ⟨Bx, h1, cells_own Bx x.cells 39 () X Y row h2 hg (fun r e => (hr r e).2), h3⟩)
    ?assign ?body ?done ?stop
  case assign =>
    rintro l pre x W K ⟨hB, ⟨v, hv, hr, hx⟩, hl⟩ hK
    have hsW := hl.size
    cases x
    all_goals
      dsimp only [Mk.cells] at hK ⊢
      gi_wp2
      exact hK _ _ ((KeepsOthers.alloc _ _).from _) (hB.lies (hB.alloc _)) ⟨hB.alloc _, ⟨v, hv.alloc _, hr.alloc _, hx⟩, hl.alloc hsW _⟩ ⟨W.heap.size, hB.2.2.lt, heap_alloc_new _ _, rfl⟩
  case body =>
    rintro l pre x a' W hl _ ⟨hB, ⟨v, hv, hr, hne, hlt⟩, hlw⟩ ⟨Bx, hBx, hcx, rfl⟩ hlen
    obtain ⟨g, cp, rfl⟩ := slice_form hr hne
    have hc := hv.cell
    have ho1 := outs_snoc tx sp pre x
    obtain ⟨n, hn⟩ : ∃ n, (outs tx sp pre).length = n := ⟨_, rfl⟩
    rw [hn] at hr hc hv hlt
    rcases x with ⟨c, s⟩ | ⟨gi⟩
    · dsimp only [Mk.cells] at hcx ⊢
      have q0 : W.cell? ⟨Bx, 0, none⟩ = some (.int .i64 (-1)) := by simp [World.cell?, hcx]
      have q1 : W.cell? ⟨Bx, 1, none⟩ = some (.int .u8 c.toNat) := by simp [World.cell?, hcx]
      have hsW := hlw.size
      have hBl := hv.lt
      have ho2 : outs tx sp (pre ++ [.ch c s]) = outs tx sp pre ++ [c] := ho1
      clear ho1
      have hE : bytesV (outs tx sp pre) ++ [.int .u8 c.toNat] = bytesV (outs tx sp (pre ++ [.ch c s])) := by rw [ho2, bytesV_app]; rfl
      have hL : (outs tx sp (pre ++ [.ch c s])).length = n + 1 := by rw [ho2, List.length_append, hn]; rfl
      clear ho2
      by_cases hbig : n + 1 < 1000
      · gi_wp2_with (gi_at_builtin; refine wpListIn_append_own _ rfl _ _ 35 rfl (w.heap.size + 1 + 1 + 1) 5 i0 (.int .u8 0) 1 1 Try.underlying35 hi hz0 hz1 hz2 rfl (by decide) _ _ _ rfl (hr.alloc _) ⟨W.heap.size, 0, none⟩ 1 1 [.int .u8 c.toNat] rfl rfl (cell_one_new _ _ _) (by simp [Value.oneCell']) (by unfold maxLen; omega) (by omega) (by simp; omega) ?_; intro v' w1 hown' hgrow _; obtain ⟨g', cap', rfl⟩ := ownsRow_succ hown'; obtain ⟨hv1, hB2, hv2, hr2, hk2, hb2⟩ := fill_app hB hv hr hlw (World.grownBy_alloc W _ none) hgrow hown'; have hc1 := hv1.cell; have hf1 := hv1.frozen; have hc2 := hv2.cell)
        exact ⟨hk2.from _, hB.lies hB2, hB2, ⟨_, hv2, by rw [hL, ← hE]; exact hr2, by simp, by rw [hL]; exact hbig⟩, hb2⟩
      · have hT : ((outs tx sp (pre ++ [.ch c s])).take 1000).length = 1000 := by rw [List.length_take, hL]; omega
        have hbig' : (1000 : Int) ≤ ((n + 1 : Nat) : Int) := by omega
        gi_wp2_with (gi_at_builtin; refine wpListIn_append_own _ rfl _ _ 35 rfl (w.heap.size + 1 + 1 + 1) 5 i0 (.int .u8 0) 1 1 Try.underlying35 hi hz0 hz1 hz2 rfl (by decide) _ _ _ rfl (hr.alloc _) ⟨W.heap.size, 0, none⟩ 1 1 [.int .u8 c.toNat] rfl rfl (cell_one_new _ _ _) (by simp [Value.oneCell']) (by unfold maxLen; omega) (by omega) (by simp; omega) ?_; intro v' w1 hown' hgrow _; obtain ⟨g', cap', rfl⟩ := ownsRow_succ hown'; obtain ⟨hv1, hB2, hv2, hr2, hk2, hb2⟩ := fill_app hB hv hr hlw (World.grownBy_alloc W _ none) hgrow hown'; have hc1 := hv1.cell; have hf1 := hv1.frozen; have hc2 := hv2.cell; have hr3 := hr2; rw [hE] at hr3; have hcv := run_convert_bytes_back (P := Try.prog) _ 35 9 5 ⟨g', 0, none⟩ cap' _ Try.underlying35 Try.underlying5 Try.underlying9 (bytes_add hr3 (List.take_prefix 1000 _)); rw [hT] at hcv; have hc3 := hB2.2.1.cell; have hf3 := hB2.2.1.frozen; obtain ⟨-, -, hcp1, hcp2⟩ := own_form hr2; have hcp3 : (1000 : Int) ≤ (cap' : Int) := by omega)
        exact ⟨(hk2.trans (KeepsOthers.setCell _ _ _)).from _, ⟨rfl, by rw [hL]; omega⟩, hB2.2.1.set _, hb2.setCell (p := ⟨w.heap.size + 1 + 1, 0, none⟩) (by simp; omega) _⟩
    · dsimp only [Mk.cells] at hcx ⊢
      have q0 : W.cell? ⟨Bx, 0, none⟩ = some (.int .i64 gi.val) := by simp [World.cell?, hcx]
      have ct := hB.1.1.cell
      have cs := hB.1.2.cell
      have hRW : RangesAt lo W (.slice ao sp.length cap) sp := hs.below hlw
      have hmx : Try.prog.follows .mixedOrders = true := by kernel_rfl
      have hRD : RangesAt lo W.drew (.slice ao sp.length cap) sp := hRW.below ⟨rfl, rfl, rfl, Nat.le_refl _, fun _ _ => rfl⟩
      have hsW := hlw.size
      have hBl := hv.lt
      have ho2 : outs tx sp (pre ++ [.gr gi]) = outs tx sp pre ++ (grpB tx sp gi.val).data.toList := ho1
      have hgz : (grpB tx sp gi.val).size ≤ 4096 := outB_size tx sp (.gr gi) (by omega)
      clear ho1
      have hne1 : ¬((gi.val : Int) = -1) := by omega
      obtain ⟨gv, hgv⟩ : ∃ gv : Nat, gi.val = gv := ⟨_, rfl⟩
      obtain ⟨sB, hsB⟩ : ∃ sB, grpB tx sp gi.val = sB := ⟨_, rfl⟩
      have hgt : ∀ W', RangesAt lo W' (.slice ao sp.length cap) sp → Calls Try.prog 13 #[.string tx, .slice ao sp.length cap, .int .i64 gv] W' fun e w' => e = .returned (.string sB) ∧ ∃ q, w' = W'.drewN q := fun W' h => by rw [← hsB, ← hgv]; exact groupText_ok tx _ sp gi.val W' h (by omega)
      rw [hsB] at ho2 hgz
      rw [hgv] at q0 hne1
      have hE : bytesV (outs tx sp pre) ++ Lib.strCells sB = bytesV (outs tx sp (pre ++ [.gr gi])) := by rw [ho2, bytesV_app]; rfl
      have hL : (outs tx sp (pre ++ [.gr gi])).length = n + sB.size := by rw [ho2, List.length_append, hn]; simp
      clear ho2 hsB
      have hap0 : ∀ q, ∃ v' w', (appS #[35, 9] 35 #[.slice (some ⟨g, 0, none⟩) n cp, .string sB]).run Try.prog (W.drewN (1 + q)) = .ok v' w' ∧ w'.ownsRow (w.heap.size + 1 + 1 + 1) 5 1 v' (n + sB.size) (bytesV (outs tx sp pre) ++ Lib.strCells sB) ∧ (W.drewN (1 + q)).grownBy w' (Value.slice (some ⟨g, 0, none⟩) n cp).ownBlock ∧ (v' = .slice none 0 0 ↔ Value.slice (some ⟨g, 0, none⟩) n cp = .slice none 0 0 ∧ sB.size = 0) := fun q =>
        Lib.run_append_own_string (P := Try.prog) (W.drewN (1 + q)) (w.heap.size + 1 + 1 + 1) 35 9 35 5 i0 Try.underlying35 Try.underlying9 hi hz0 hz1 hz2 _ n _ (hr.kept (grownBy_drewN' W _) (.inr (by simp [Value.ownBlock]))) sB (by unfold maxLen; omega) (by omega) (by show _ ≤ W.heap.size; omega)
      gi_wp2
      rename_i K hK hh
      have hrest : ∀ (g' cap' : Nat) (w1 : World), FillB w tm tx (.slice ao sp.length cap) (w1.setCell ⟨w.heap.size + 1 + 1 + 1 + 1, 0, none⟩ (.slice (some ⟨g', 0, none⟩) (n + sB.size) cap')) →
          Boxed (w1.setCell ⟨w.heap.size + 1 + 1 + 1 + 1, 0, none⟩ (.slice (some ⟨g', 0, none⟩) (n + sB.size) cap')) (w.heap.size + 1 + 1 + 1 + 1) 35 (.slice (some ⟨g', 0, none⟩) (n + sB.size) cap') →
          (w1.setCell ⟨w.heap.size + 1 + 1 + 1 + 1, 0, none⟩ (.slice (some ⟨g', 0, none⟩) (n + sB.size) cap')).ownsRow (w.heap.size + 1 + 1 + 1) 5 1 (.slice (some ⟨g', 0, none⟩) (n + sB.size) cap') (n + sB.size) (bytesV (outs tx sp pre) ++ Lib.strCells sB) →
          KeepsOthers W (w1.setCell ⟨w.heap.size + 1 + 1 + 1 + 1, 0, none⟩ (.slice (some ⟨g', 0, none⟩) (n + sB.size) cap')) → Below w.heap.size w (w1.setCell ⟨w.heap.size + 1 + 1 + 1 + 1, 0, none⟩ (.slice (some ⟨g', 0, none⟩) (n + sB.size) cap')) →
          K { tmps := #[.string tm, .string tx, .slice ao sp.length cap, undef, .pointer (some ⟨w.heap.size, 0, none⟩), .pointer (some ⟨w.heap.size + 1, 0, none⟩), .pointer (some ⟨w.heap.size + 1 + 1, 0, none⟩), .pointer (some ⟨w.heap.size + 1 + 1 + 1 + 1, 0, none⟩), .pointer (some ⟨Bx, 0, none⟩), .string tm, .int .i64 tm.size, .bool false, .bool false, .string tx, .int .i64 tx.size, .bool false, .bool false, .slice (some ⟨w.heap.size + 1 + 1 + 1, 0, none⟩) 0 0, .string tm, .func (.func 15) #[] #[.pointer (some ⟨w.heap.size + 1 + 1 + 1 + 1 + 1, 0, none⟩)], .agg #[.int .i64 gv, .int .u8 0, .bool false], .pointer (some ⟨Bx, 0, none⟩), .int .i64 gv, .bool false, undef, undef, undef, undef, undef, .slice (some ⟨g, 0, none⟩) n cp, .string tx, .slice ao sp.length cap, .pointer (some ⟨Bx, 0, none⟩), .int .i64 gv, .string sB, .slice (some ⟨g', 0, none⟩) (n + sB.size) cap', undef, undef, undef, undef, undef, undef, undef, undef], defers := [] } (w1.setCell ⟨w.heap.size + 1 + 1 + 1 + 1, 0, none⟩ (.slice (some ⟨g', 0, none⟩) (n + sB.size) cap')) := by
        intro g' cap' w1 hB2 hv2 hr2 hk2 hb2
        refine hK _ _ ?_
        have hc2 := hv2.cell
        by_cases hbig : n + sB.size < 1000
        · have hbig' : ((n : Int) + (sB.size : Int)) < 1000 := by omega
          gi_wp2
          exact ⟨hk2.from _, hB.lies hB2, hB2, ⟨_, hv2, by rw [hL, ← hE]; exact hr2, by simp, by rw [hL]; exact hbig⟩, hb2⟩
        · have hT : ((outs tx sp (pre ++ [.gr gi])).take 1000).length = 1000 := by rw [List.length_take, hL]; omega
          have hbig' : (1000 : Int) ≤ ((n + sB.size : Nat) : Int) := by omega
          have hr3 := hr2
          rw [hE] at hr3
          have hcv := run_convert_bytes_back (P := Try.prog) _ 35 9 5 ⟨g', 0, none⟩ cap' _ Try.underlying35 Try.underlying5 Try.underlying9 (bytes_add hr3 (List.take_prefix 1000 _))
          rw [hT] at hcv
          have hc3 := hB2.2.1.cell
          have hf3 := hB2.2.1.frozen
          obtain ⟨-, -, hcp1, hcp2⟩ := own_form hr2
          have hcp3 : (1000 : Int) ≤ (cap' : Int) := by omega
          gi_wp2
          exact ⟨(hk2.trans (KeepsOthers.setCell _ _ _)).from _, ⟨rfl, by rw [hL]; omega⟩, hB2.2.1.set _, hb2.setCell (p := ⟨w.heap.size + 1 + 1, 0, none⟩) (by simp; omega) _⟩
      gi_region_with_o (refine ⟨trivial, ?_⟩; gi_at_call 13; refine (CallsIn.inRound l (callsIn_wide.2 (hgt _ hRD))).mono ?_; rintro e w' ⟨rfl, q, rfl⟩; obtain ⟨v', w1, hap, hown', hgrow, hnil⟩ := hap0 q; obtain ⟨hv1, hB2, hv2, hr2, hk2, hb2⟩ := fill_app hB hv hr hlw (grownBy_drewN' W _) hgrow hown'; obtain ⟨g', cap', rfl⟩ := slice_form hown' (fun x => by have := (hnil.1 x).1; cases this); have hc1 := hv1.cell; have hf1 := hv1.frozen; have hc2 := hv2.cell)
      all_goals exact hrest _ _ _ hB2 hv2 hr2 hk2 hb2
  case done =>
    rintro D ys W hD rfl ⟨hB, ⟨v, hv, hr, hne, hlt⟩, hlw⟩ hK
    obtain ⟨g, cp, rfl⟩ := slice_form hr hne
    have hc := hv.cell
    have hc3 := hB.2.1.cell
    have hf3 := hB.2.1.frozen
    have hcv := run_convert_bytes_back (P := Try.prog) _ 35 9 5 ⟨g, 0, none⟩ cp _ Try.underlying35 Try.underlying5 Try.underlying9 (bytes_add hr (List.prefix_refl _))
    have hfin : (outs tx sp (marksL tm.data.toList)).take 1000 = outs tx sp (marksL tm.data.toList) := List.take_of_length_le (by omega)
    rw [hfin] at H
    gi_wp2
    have hK2 := (KeepsOthers.setCell W ⟨w.heap.size + 1 + 1, 0, none⟩ (.string ⟨(outs tx sp (marksL tm.data.toList)).toArray⟩)).same D _ hK rfl
    have hq := cell_kept (hB.2.1.set (.string ⟨(outs tx sp (marksL tm.data.toList)).toArray⟩)).cell (grownBy_putObj' _ D (.deferred none)) (fun r e => by cases e; exact ⟨_, hK2, rfl⟩)
    refine ⟨by simp, .inl ⟨_, _, rfl, run_takeDeferred hK2, ?_⟩⟩
    exact ⟨.string ⟨(outs tx sp (marksL tm.data.toList)).toArray⟩, by simp [results, Try.results7, go_sem, hq], ret_str H.out.symm, (hlw.setCell (p := ⟨w.heap.size + 1 + 1, 0, none⟩) (by simp; omega) _).trans (belowK_b (w := w) (Nat.le_refl _) _ D _ _ (by omega) hK2 rfl rfl)⟩
  case stop =>
    rintro D c pre W hD ⟨suf, hsuf⟩ ⟨⟨rfl, hlen⟩, hbx2, hlw⟩ hK
    have hfin : (outs tx sp (marksL tm.data.toList)).take 1000 = (outs tx sp pre).take 1000 := by
      rw [← hsuf]
      unfold outs
      rw [List.flatMap_append]
      exact List.take_append_of_le_length hlen
    rw [hfin] at H
    have hq := cell_kept hbx2.cell (grownBy_putObj' _ D (.deferred none)) (fun r e => by cases e; exact ⟨_, hK, rfl⟩)
    gi_wp2
    refine ⟨by simp, .inl ⟨_, _, rfl, run_takeDeferred hK, ?_⟩⟩
    exact ⟨.string ⟨((outs tx sp pre).take 1000).toArray⟩, by simp [results, Try.results7, go_sem, hq], ret_str H.out.symm, hlw.trans (belowK_b (w := w) (Nat.le_refl _) W D _ _ (by omega) hK rfl rfl)⟩
end Go.Proofs.Ytipndbhedaknnaa
