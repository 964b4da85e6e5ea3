import Derived.Test.YtgbdlgogccgciaaGreatDoorPgJPgKMkE
namespace Go.Proofs.YtgbdlgogccgciaaGreatDoor
open Go.RowKit
attribute [local go_sem ↓] Go.wp_at_zero Go.wp_at_succ

/- CLASSES AND ITEMS OF A BRACKET, THE CODE's SIDE. -/
theorem wpList_load_rowW {P : Program} {ops : Array Oper} {rest : List Oper} {o : Oper} {a : Act} {w : World} {Q : Exit → Act → World → Prop} (hw : Region.wanted o (yielded ops a.tmps) = true) (ty : TypeId) (x : Operand) (ho : o.op = .load ty x)
    (g : Nat) (hx : a.eval x = .pointer (some ⟨g, 0, none⟩)) (t : TypeId) (cs : Array Value) (fr : Nat × Nat) (d : TypeDesc) (hg : w.heap[g]? = some (.cells cs t fr))
    (hu : P.underlying ty = some d) (hd : (match d with | .struct _ | .array _ _ => true | _ => false) = true) (hi : (P.info? ty).map (·.size) = some cs.size)
    (h : wpList P ops Q rest (a.put o.dst (.agg cs)) w) : wpList P ops Q (o :: rest) a w :=
  wpList_step fun K hK => by simp only [hw, if_true]; exact wp_load_row ty x ho g hx t cs fr d hg hu hd hi (hK _ _ h)
theorem results_cell_slot {P : Program} {fn : Func} {p q : Tmp} {ty : TypeId} (h : fn.results = #[.cell p ty, .tmp q]) (tmps : Array Value) (w : World) (g : Nat) (t : TypeId) (cs : Array Value) (fr : Nat × Nat) (d : TypeDesc) (u : Value)
    (hp : tmps.getD p undef = .pointer (some ⟨g, 0, none⟩)) (hq : tmps.getD q undef = u) (hg : w.heap[g]? = some (.cells cs t fr))
    (hu : P.underlying ty = some d) (hd : (match d with | .struct _ | .array _ _ => true | _ => false) = true) (hi : (P.info? ty).map (·.size) = some cs.size) :
    (results fn tmps).run P w = .ok (.tuple #[.agg cs, u]) w := by
  have hp' : tmps[p]?.getD undef = .pointer (some ⟨g, 0, none⟩) := by simpa using hp
  have hq' : tmps[q]?.getD undef = u := by simpa using hq
  simp [results, h, hp', hq', asAddr, run_loadVar_row w g t ty cs fr d hg hu hd hi]
theorem class_some {n : List UInt8} {f : Nat → Bool} (h : classF n = some f) : ∃ c, c < 256 ∧ f c = true := by
  unfold classF at h
  split at h
  · cases h; exact ⟨65, by omega, by decide⟩
  split at h
  · cases h; exact ⟨48, by omega, by decide⟩
  split at h
  · cases h; exact ⟨65, by omega, by decide⟩
  split at h
  · cases h; exact ⟨65, by omega, by decide⟩
  split at h
  · cases h; exact ⟨97, by omega, by decide⟩
  split at h
  · cases h; exact ⟨9, by omega, by decide⟩
  split at h
  · cases h; exact ⟨9, by omega, by decide⟩
  split at h
  · cases h; exact ⟨33, by omega, by decide⟩
  split at h
  · cases h; exact ⟨48, by omega, by decide⟩
  · cases h
def ItV (r : Option ((Nat → Bool) × Nat)) (e : Ending) : Prop := match r with
  | none => e = .returned (.tuple #[.agg (marksArr noB), .int .i64 0])
  | some (f, k) => e = .returned (.tuple #[.agg (marksArr f), .int .i64 (k : Int)])
theorem ItV.none {r : Option ((Nat → Bool) × Nat)} (h : r = none) : ItV r (.returned (.tuple #[.agg (marksArr fun _ => false), .int .i64 0])) := by subst h; rfl
theorem ItV.some {r : Option ((Nat → Bool) × Nat)} {f : Nat → Bool} {k : Nat} {z : Int} (h : r = some (f, k)) (hz : z = (k : Int)) : ItV r (.returned (.tuple #[.agg (marksArr f), .int .i64 z])) := by subst h hz; rfl
def clsI (l : List UInt8) : Option ((Nat → Bool) × Nat) := match cut2 58 93 l with
  | none => none
  | some (name, _) => match classF name with
    | none => none
    | some f => some (f, name.length + 4)
theorem row_st (W : World) (f g : Nat → Bool) : ((W.alloc (.cells (marksArr f) 141)).setRow W.heap.size (marksArr g)).heap[W.heap.size]? = some (.cells (marksArr g) 141 (0, 0)) := setRow_heap _ _ _ _ _ _ (heap_alloc_new _ _)
theorem below_st (W : World) (f g : Nat → Bool) : Below W.heap.size W ((W.alloc (.cells (marksArr f) 141)).setRow W.heap.size (marksArr g)) := Below.setRow ((Below.refl _ _).alloc (Nat.le_refl _) _) (Nat.le_refl _) _
theorem cut2_len {c d : UInt8} : ∀ {l q r : List UInt8}, cut2 c d l = some (q, r) → q.length ≤ l.length
  | [], q, r, h => by simp [cut2] at h
  | x :: l, q, r, h => by
    unfold cut2 at h
    split at h
    · cases h; simp
    · cases hc : cut2 c d l with
      | none => rw [hc] at h; cases h
      | some p =>
        obtain ⟨a, b⟩ := p
        rw [hc] at h
        cases h
        have := cut2_len hc
        simp
        omega
theorem marks_store {W : World} {g : Nat} {f : Nat → Bool} (h : Nat → Bool) (hg : W.heap[g]? = some (.cells (marksArr f) 141 (0, 0))) : (storeCells ⟨g, 0, none⟩ (marksArr h).toList).run Tryz.prog W = .ok () (W.setRow g (marksArr h)) := by
  have h9 := run_storeCells_from (P := Tryz.prog) g 141 (marksArr h).toList 0 (marksArr f) W hg (by simp [marksArr_size]) (fun v hv => (Array.all_eq_true_iff_forall_mem.1 (marksArr_one h)) v (by simpa using hv))
  rw [h9]
  congr 2
/-- What classMarks owes. -/
def CmC : Prop := ∀ (t : ByteArray) (w : World), Calls Tryz.prog 95 #[.string t] w fun e w' => e = .returned (.agg (marksArr ((classF t.data.toList).getD noB))) ∧ Below w.heap.size w w'
set_option maxRecDepth 100000 in
set_option maxHeartbeats 2000000 in
theorem readClass_ok (hcm : CmC) (t : ByteArray) (m : Int) (w : World) (hs : t.size ≤ 2000) (h2 : 2 ≤ t.size) (hm : w.cell? ⟨1, 0, none⟩ = some (.int .i64 m)) (hm1 : 1 < w.heap.size) :
    Calls Tryz.prog 85 #[.string t] w fun e w' => ItV (clsI (t.data.toList.drop 2)) e ∧ Below w.heap.size w w' := by
  have hzv := (zero_of_info Tryz.zeroMarks).1
  have hzi : Hid _ := (zero_of_info Tryz.zeroMarks).2
  have h1 : (2 : Int) ≤ (t.size : Int) := by omega
  obtain ⟨R, hR⟩ : ∃ R, R = t.extract 2 t.size := ⟨_, rfl⟩
  have hRl : R.data.toList = t.data.toList.drop 2 := by
    rw [hR, ext_list]
    exact List.take_of_length_le (by rw [List.length_drop, Array.length_toList]; exact Nat.le_refl _)
  have hRs : R.size ≤ 2000 := by
    have h9 : R.data.toList.length = R.size := Array.length_toList
    have h8 : t.data.toList.length = t.size := Array.length_toList
    rw [hRl, List.length_drop] at h9
    omega
  obtain ⟨W0, hW0⟩ : ∃ W0, W0 = w.alloc (.cells (marksArr fun _ => false) 141) := ⟨_, rfl⟩
  have hr0 : W0.heap[w.heap.size]? = some (.cells (marksArr fun _ => false) 141 (0, 0)) := by rw [hW0]; exact heap_alloc_new _ _
  have hb0 : Below w.heap.size w W0 := by rw [hW0]; exact (Below.refl _ _).alloc (Nat.le_refl _) _
  have hm0 : W0.cell? ⟨1, 0, none⟩ = some (.int .i64 m) := by rw [World.cell?_of_block (w := w) (hb0.block 1 hm1)]; exact hm
  have hC := cut2_ok R 58 93 m W0 (by omega) hm0
  rw [← hRl]
  have HRl := hid hRl
  clear hRl hm hm0
  go_enter Tryz.func85, Tryz.ntmps85
  go_wp2_with fail
  try rw [← hW0]
  try rw [← hR]
  clear hR hW0
  refine hC.mono ?_
  rintro e w1 ⟨⟨n, hw1⟩, he⟩
  have hb1 : Below W0.heap.size W0 w1 := by rw [hw1]; exact below_drewN (Below.refl _ _) n
  have hr1 := row_below hr0 hb1
  have hbb1 := below_step hb0 hb0.size hb1
  clear hC hw1 hr0
  cases hcut : cut2 58 93 R.data.toList with
  | none =>
    rw [hcut] at he
    have he2 : e = .returned (.tuple #[.string (BA R.data.toList), .string (BA []), .bool false]) := he
    subst he2
    have hI : clsI R.data.toList = none := by unfold clsI; rw [hcut]
    have hM := hcm (BA R.data.toList) w1
    generalize BA R.data.toList = q at *
    generalize BA [] = q2 at *
    have HI := hid hI
    clear hI hcut he
    go_wp2_with fail
    refine hM.mono ?_
    rintro e w2 ⟨rfl, hb2⟩
    have hr2 := row_below hr1 hb2
    have hbb2 := below_step hbb1 hbb1.size hb2
    generalize (classF q.data.toList).getD noB = F at *
    clear hM
    go_upto_region 4 with (refine wpList_store_row rfl 141 (.tmp 7) _ rfl w2.heap.size _ rfl rfl 141 _ (heap_alloc_new _ _) (by rw [marksArr_size]; exact hzi.out) (by rw [marksArr_size, marksArr_size]) (marksArr_one _) ?_)
    have hr3 := row_below hr2 (below_st w2 (fun _ => false) F)
    have hbb3 := below_step hbb2 hbb2.size (below_st w2 (fun _ => false) F)
    generalize (w2.alloc (.cells (marksArr fun _ => false) 141)).setRow w2.heap.size (marksArr F) = W3 at *
    have hst := marks_store (fun _ => false) hr3
    have hsz := marksArr_size (fun _ => false)
    go_wp2
    exact bodyPost_ret (v := .tuple #[.agg (marksArr fun _ => false), .int .i64 0]) (results_cell_slot Tryz.results85 _ _ w.heap.size 141 _ (0, 0) _ _ rfl rfl (setRow_heap _ _ _ _ _ _ hr3) Tryz.underlying141 rfl (by rw [marksArr_size]; exact hzi.out)) rfl ⟨.none HI.out, Below.setRow hbb3 (Nat.le_refl _) _⟩
  | some qr =>
    obtain ⟨q0, r0⟩ := qr
    rw [hcut] at he
    have he2 : e = .returned (.tuple #[.string (BA q0), .string (BA r0), .bool true]) := he
    subst he2
    have hM := hcm (BA q0) w1
    rw [BA_list] at hM
    have hql : q0.length ≤ 2000 := by
      have h9 : R.data.toList.length = R.size := Array.length_toList
      have := cut2_len hcut
      omega
    have hqs : (BA q0).size = q0.length := BA_size q0
    have hI : clsI R.data.toList = (match classF q0 with | none => none | some f => some (f, q0.length + 4)) := by unfold clsI; rw [hcut]
    generalize BA q0 = q at *
    generalize BA r0 = q2 at *
    have HI := hid hI
    have hqs2 : q.size ≤ 2000 := by omega
    have HQ := hid hqs
    clear hcut he hI hqs
    cases hcl : classF q0 with
    | none =>
      rw [hcl] at hM
      have HC := hid hcl
      have hE : eqM noB (fun _ => false) = true := eqM_true fun _ _ => rfl
      have hM2 : Calls Tryz.prog 95 #[.string q] w1 fun e w' => e = .returned (.agg (marksArr noB)) ∧ Below w1.heap.size w1 w' := hM
      have hx := Tryz.eqlMarks noB (fun _ => false)
      rw [hE] at hx
      clear hM hcl hE
      go_wp2_with fail
      refine hM2.mono ?_
      rintro e w2 ⟨rfl, hb2⟩
      have hr2 := row_below hr1 hb2
      have hbb2 := below_step hbb1 hbb1.size hb2
      clear hM2
      generalize noB = F at *
      go_upto_region 3 with (refine wpList_store_row rfl 141 (.tmp 7) _ rfl w2.heap.size _ rfl rfl 141 _ (heap_alloc_new _ _) (by rw [marksArr_size]; exact hzi.out) (by rw [marksArr_size, marksArr_size]) (marksArr_one _) ?_)
      have hr3 := row_below hr2 (below_st w2 (fun _ => false) F)
      have hq3 := row_st w2 (fun _ => false) F
      have hbb3 := below_step hbb2 hbb2.size (below_st w2 (fun _ => false) F)
      generalize (w2.alloc (.cells (marksArr fun _ => false) 141)).setRow w2.heap.size (marksArr F) = W3 at *
      have hst := marks_store (fun _ => false) hr3
      have hsz := marksArr_size (fun _ => false)
      go_upto_region 4 with (refine wpList_load_rowW rfl 141 (.tmp 7) rfl w2.heap.size rfl 141 _ (0, 0) _ hq3 Tryz.underlying141 rfl (by rw [marksArr_size]; exact hzi.out) ?_)
      go_wp2
      exact bodyPost_ret (v := .tuple #[.agg (marksArr fun _ => false), .int .i64 0]) (results_cell_slot Tryz.results85 _ _ w.heap.size 141 _ (0, 0) _ _ rfl rfl (setRow_heap _ _ _ _ _ _ hr3) Tryz.underlying141 rfl (by rw [marksArr_size]; exact hzi.out)) rfl ⟨.none (by rw [HI.out, HC.out]), Below.setRow hbb3 (Nat.le_refl _) _⟩
    | some f =>
      rw [hcl] at hM
      have HC := hid hcl
      obtain ⟨cc, hcc, hfc⟩ := class_some hcl
      have hE : eqM f (fun _ => false) = false := eqM_false hcc (by rw [hfc]; decide)
      have hM2 : Calls Tryz.prog 95 #[.string q] w1 fun e w' => e = .returned (.agg (marksArr f)) ∧ Below w1.heap.size w1 w' := hM
      have hx := Tryz.eqlMarks f (fun _ => false)
      rw [hE] at hx
      clear hM hcl hE hfc hcc
      go_wp2_with fail
      refine hM2.mono ?_
      rintro e w2 ⟨rfl, hb2⟩
      have hr2 := row_below hr1 hb2
      have hbb2 := below_step hbb1 hbb1.size hb2
      clear hM2
      go_upto_region 3 with (refine wpList_store_row rfl 141 (.tmp 7) _ rfl w2.heap.size _ rfl rfl 141 _ (heap_alloc_new _ _) (by rw [marksArr_size]; exact hzi.out) (by rw [marksArr_size, marksArr_size]) (marksArr_one _) ?_)
      have hr3 := row_below hr2 (below_st w2 (fun _ => false) f)
      have hq3 := row_st w2 (fun _ => false) f
      have hbb3 := below_step hbb2 hbb2.size (below_st w2 (fun _ => false) f)
      generalize (w2.alloc (.cells (marksArr fun _ => false) 141)).setRow w2.heap.size (marksArr f) = W3 at *
      have hst := marks_store f hr3
      have hsz := marksArr_size f
      go_upto_region 5 with (refine wpList_load_rowW rfl 141 (.tmp 7) rfl w2.heap.size rfl 141 _ (0, 0) _ hq3 Tryz.underlying141 rfl (by rw [marksArr_size]; exact hzi.out) ?_)
      go_wp2_with (refine wpList_load_rowW rfl 141 (.tmp 7) rfl w2.heap.size rfl 141 _ (0, 0) _ hq3 Tryz.underlying141 rfl (by rw [marksArr_size]; exact hzi.out) ?_)
      exact bodyPost_ret (v := .tuple #[.agg (marksArr f), .int .i64 ((q.size : Int) + 4)]) (results_cell_slot Tryz.results85 _ _ w.heap.size 141 _ (0, 0) _ _ rfl rfl (setRow_heap _ _ _ _ _ _ hr3) Tryz.underlying141 rfl (by rw [marksArr_size]; exact hzi.out)) rfl ⟨.some (by rw [HI.out, HC.out]) (by rw [HQ.out]; omega), Below.setRow hbb3 (Nat.le_refl _) _⟩
end Go.Proofs.YtgbdlgogccgciaaGreatDoor
