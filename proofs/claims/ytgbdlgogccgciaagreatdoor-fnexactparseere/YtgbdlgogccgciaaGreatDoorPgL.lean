import Derived.Test.YtgbdlgogccgciaaGreatDoorPgU
import Derived.Test.YtgbdlgogccgciaaGreatDoorPeTPeUPeVStepE
import Derived.Test.YtgbdlgogccgciaaGreatDoorLstLstCPre
import Derived.Deep.Cut
import Derived.Deep.CutRange
import Derived.Deep.RegionLaw
namespace Go.Proofs.YtgbdlgogccgciaaGreatDoor
open Go.RowKit
attribute [local go_sem ↓] Go.wp_at_zero Go.wp_at_succ

/- NAMED CLASSES, THE CODE's SIDE. -/
def MRow (W : World) (G : Nat) (f : Nat → Bool) : Prop := W.heap[G]? = some (.cells (marksArr f) 141 (0, 0))
theorem MRow.below {W W' : World} {G : Nat} {f : Nat → Bool} (h : MRow W G f) (hb : Below W.heap.size W W') : MRow W' G f := row_below h hb
theorem MRow.lt {W : World} {G : Nat} {f : Nat → Bool} (h : MRow W G f) : G < W.heap.size := row_lt h
/-- A new row of marks, stored. -/
theorem MRow.stored (W : World) (f g : Nat → Bool) : MRow ((W.alloc (.cells (marksArr f) 141)).setRow W.heap.size (marksArr g)) W.heap.size g := setRow_heap _ _ _ _ _ _ (heap_alloc_new _ _)
theorem below_stored (W : World) (f g : Nat → Bool) : Below W.heap.size W ((W.alloc (.cells (marksArr f) 141)).setRow W.heap.size (marksArr g)) := Below.setRow ((Below.refl _ _).alloc (Nat.le_refl _) _) (Nat.le_refl _) _
theorem markIn_or (f : Nat → Bool) (lo hi : Int) : markIn f lo hi = orB f (rangeB lo hi) := rfl
theorem markIn_no (lo hi : Int) : markIn (fun _ => false) lo hi = rangeB lo hi := by funext c; simp [markIn, rangeB]
theorem step_load_row {P : Program} {ops : Array Oper} {o : Oper} {a : Act} {w : World} {K : Act → World → Prop} {Q : Exit → Act → World → Prop} {E : Prop} (hgd : o.guard = none) (ty : TypeId) (x : Operand) (ho : o.op = .load ty x)
    (g : Nat) (hx : a.eval x = .pointer (some ⟨g, 0, none⟩)) (t : TypeId) (cs : Array Value) (fr : Nat × Nat) (d : TypeDesc) (hg : w.heap[g]? = some (.cells cs t fr))
    (hu : P.underlying ty = some d) (hd : (match d with | .struct _ | .array _ _ => true | _ => false) = true) (hi : (P.info? ty).map (·.size) = some cs.size)
    (h : K (a.put o.dst (.agg cs)) w) : if Region.wanted o (yielded ops a.tmps) = true then Oper.wp P o a w K Q else E := by
  have hw : Region.wanted o (yielded ops a.tmps) = true := by simp [Region.wanted, hgd]
  rw [if_pos hw]
  exact wp_load_row ty x ho g hx t cs fr d hg hu hd hi h
theorem step_store_row {P : Program} {ops : Array Oper} {o : Oper} {a : Act} {w : World} {K : Act → World → Prop} {Q : Exit → Act → World → Prop} {E : Prop} (hgd : o.guard = none) (ty : TypeId) (x y : Operand) (ho : o.op = .store ty x y)
    (g : Nat) (cells : Array Value) (hx : a.eval x = .pointer (some ⟨g, 0, none⟩)) (hy : a.eval y = .agg cells)
    (t : TypeId) (old : Array Value) (hg : w.heap[g]? = some (.cells old t (0, 0))) (hi : (P.info? ty).map (·.size) = some cells.size)
    (hold : old.size = cells.size) (h1 : cells.all (·.oneCell') = true)
    (h : K (a.put o.dst undef) (w.setRow g cells)) : if Region.wanted o (yielded ops a.tmps) = true then Oper.wp P o a w K Q else E := by
  have hw : Region.wanted o (yielded ops a.tmps) = true := by simp [Region.wanted, hgd]
  rw [if_pos hw]
  exact wp_store_row ty x y ho g cells hx hy t old hg hi hold h1 h
theorem enterJoined (xs : Array Value) (w : World) : (callFunc 74 xs).run Tryz.prog w = .ok (.enter 74 xs) w := by kernel_rfl
theorem joinedE (f g : Nat → Bool) (w : World) : Calls Tryz.prog 74 #[.agg (marksArr f), .agg (marksArr g)] w fun e w' => ∃ v, e = .returned v ∧ (v = .agg (marksArr (orB f g)) ∧ Below w.heap.size w w') :=
  (joined_ok f g w).mono fun _ _ h => ⟨_, h.1, rfl, h.2⟩
/-- The classes are made. -/
structure CmS (w W : World) (R A C D : Nat) : Prop where
  r : MRow W R (fun _ => false)
  a : MRow W A (rangeB 65 90)
  c : MRow W C (rangeB 97 122)
  d : MRow W D (rangeB 48 57)
  b : Below w.heap.size w W
  re : w.heap.size ≤ R
theorem CmS.keep {w W W' : World} {R A C D : Nat} (h : CmS w W R A C D) (hb : Below W.heap.size W W') : CmS w W' R A C D := ⟨h.r.below hb, h.a.below hb, h.c.below hb, h.d.below hb, below_step h.b h.b.size hb, h.re⟩
set_option maxRecDepth 100000 in
set_option maxHeartbeats 16000000 in
set_option linter.unusedSimpArgs false in
theorem classMarks_ok (t : ByteArray) (w : World) :
    Calls Tryz.prog 95 #[.string t] w fun e w' => e = .returned (.agg (marksArr ((classF t.data.toList).getD noB))) ∧ Below w.heap.size w w' := by
  have hzv := (zero_of_info Tryz.zeroMarks).1
  have hzi : Hid _ := (zero_of_info Tryz.zeroMarks).2
  go_enter Tryz.func95, Tryz.ntmps95
  go_wp2_with fail
  obtain ⟨W0, hW0⟩ : ∃ W0, W0 = w.alloc (.cells (marksArr fun _ => false) 141) := ⟨_, rfl⟩
  have hR : MRow W0 w.heap.size (fun _ => false) := by rw [hW0]; exact heap_alloc_new _ _
  have hb0 : Below w.heap.size w W0 := by rw [hW0]; exact (Below.refl _ _).alloc (Nat.le_refl _) _
  rw [← hW0]
  clear hW0
  refine (with_ok (fun _ => false) 65 90 W0 (by omega) (by omega)).mono ?_
  rintro e w1 ⟨rfl, hb1⟩
  rw [markIn_no]
  go_wp2_with (refine wpList_store_row rfl 141 (.tmp 3) _ rfl w1.heap.size _ rfl rfl 141 _ (heap_alloc_new _ _) (by rw [marksArr_size]; exact hzi.out) (by rw [marksArr_size, marksArr_size]) (marksArr_one _) ?_)
  have ha1 := MRow.stored w1 (fun _ => false) (rangeB 65 90)
  have hb2 := below_stored w1 (fun _ => false) (rangeB 65 90)
  generalize (w1.alloc (.cells (marksArr fun _ => false) 141)).setRow w1.heap.size (marksArr (rangeB 65 90)) = W2 at *
  refine (with_ok (fun _ => false) 97 122 W2 (by omega) (by omega)).mono ?_
  rintro e w3 ⟨rfl, hb3⟩
  rw [markIn_no]
  go_wp2_with (refine wpList_store_row rfl 141 (.tmp 4) _ rfl w3.heap.size _ rfl rfl 141 _ (heap_alloc_new _ _) (by rw [marksArr_size]; exact hzi.out) (by rw [marksArr_size, marksArr_size]) (marksArr_one _) ?_)
  have ha3 := MRow.stored w3 (fun _ => false) (rangeB 97 122)
  have hb4 := below_stored w3 (fun _ => false) (rangeB 97 122)
  generalize (w3.alloc (.cells (marksArr fun _ => false) 141)).setRow w3.heap.size (marksArr (rangeB 97 122)) = W4 at *
  refine (with_ok (fun _ => false) 48 57 W4 (by omega) (by omega)).mono ?_
  rintro e w5 ⟨rfl, hb5⟩
  rw [markIn_no]
  go_upto_region 5 with (refine wpList_store_row rfl 141 (.tmp 5) _ rfl w5.heap.size _ rfl rfl 141 _ (heap_alloc_new _ _) (by rw [marksArr_size]; exact hzi.out) (by rw [marksArr_size, marksArr_size]) (marksArr_one _) ?_)
  have ha5 := MRow.stored w5 (fun _ => false) (rangeB 48 57)
  have hb6 := below_stored w5 (fun _ => false) (rangeB 48 57)
  generalize (w5.alloc (.cells (marksArr fun _ => false) 141)).setRow w5.heap.size (marksArr (rangeB 48 57)) = W6 at *
  have HC : Hid (CmS w W6 w.heap.size w1.heap.size w3.heap.size w5.heap.size) := by
    have k1 := below_step hb0 hb0.size hb1
    have k2 := below_step k1 k1.size hb2
    have k3 := below_step k2 k2.size hb3
    have k4 := below_step k3 k3.size hb4
    have k5 := below_step k4 k4.size hb5
    have k6 := below_step k5 k5.size hb6
    exact ⟨(((((hR.below hb1).below hb2).below hb3).below hb4).below hb5).below hb6, (((ha1.below hb3).below hb4).below hb5).below hb6, (ha3.below hb5).below hb6, ha5, k6, Nat.le_refl _⟩
  generalize w1.heap.size = A at *
  generalize w3.heap.size = C at *
  generalize w5.heap.size = D at *
  clear hR hb0 hb1 hb2 hb3 hb4 hb5 hb6 ha1 ha3 ha5
  --NAMES
  have HC0 := HC.out
  by_cases eAlpha : t = ⟨#[97, 108, 112, 104, 97]⟩
  · subst eAlpha
    have hcl : (classF [97, 108, 112, 104, 97]).getD noB = orB (rangeB 65 90) (rangeB 97 122) := by simp [classF, nAlpha, nDigit, nAlnum, nUpper, nLower, nSpace, nBlank, nPunct, nXdigit, alphaB, digitB]
    have HCL := hid hcl
    clear hcl
    go_wp2_with (first | (refine wpList_load_row rfl 141 (.tmp 3) rfl A rfl 141 _ (0, 0) _ HC0.a Tryz.underlying141 rfl (by rw [marksArr_size]; exact hzi.out) ?_) | (refine wpList_load_row rfl 141 (.tmp 4) rfl C rfl 141 _ (0, 0) _ HC0.c Tryz.underlying141 rfl (by rw [marksArr_size]; exact hzi.out) ?_))
    refine (joined_ok _ _ W6).mono ?_
    rintro e w7 ⟨rfl, hb7⟩
    have HC7 := HC0.keep hb7
    go_wp2_with (refine wpList_store_row rfl 141 (.tmp 2) _ rfl w.heap.size _ rfl rfl 141 _ HC7.r (by rw [marksArr_size]; exact hzi.out) (by rw [marksArr_size, marksArr_size]) (marksArr_one _) ?_)
    exact bodyPost_ret (v := .agg (marksArr (orB (rangeB 65 90) (rangeB 97 122)))) (results_cell_row Tryz.results95 _ _ w.heap.size 141 _ (0, 0) _ rfl (setRow_heap _ _ _ _ _ _ HC7.r) Tryz.underlying141 rfl (by rw [marksArr_size]; exact hzi.out)) rfl ⟨by rw [HCL.out], Below.setRow HC7.b HC7.re _⟩
  by_cases eDigit : t = ⟨#[100, 105, 103, 105, 116]⟩
  · subst eDigit
    have hcl : (classF [100, 105, 103, 105, 116]).getD noB = rangeB 48 57 := by simp [classF, nAlpha, nDigit, nAlnum, nUpper, nLower, nSpace, nBlank, nPunct, nXdigit, alphaB, digitB]
    have HCL := hid hcl
    clear hcl eAlpha
    go_wp2_with (first | (refine wpList_load_row rfl 141 (.tmp 5) rfl D rfl 141 _ (0, 0) _ HC0.d Tryz.underlying141 rfl (by rw [marksArr_size]; exact hzi.out) ?_) | (refine wpList_store_row rfl 141 (.tmp 2) _ rfl w.heap.size _ rfl rfl 141 _ HC0.r (by rw [marksArr_size]; exact hzi.out) (by rw [marksArr_size, marksArr_size]) (marksArr_one _) ?_))
    exact bodyPost_ret (v := .agg (marksArr (rangeB 48 57))) (results_cell_row Tryz.results95 _ _ w.heap.size 141 _ (0, 0) _ rfl (setRow_heap _ _ _ _ _ _ HC0.r) Tryz.underlying141 rfl (by rw [marksArr_size]; exact hzi.out)) rfl ⟨by rw [HCL.out], Below.setRow HC0.b HC0.re _⟩
  by_cases eAlnum : t = ⟨#[97, 108, 110, 117, 109]⟩
  · subst eAlnum
    have hcl : (classF [97, 108, 110, 117, 109]).getD noB = orB (orB (rangeB 65 90) (rangeB 97 122)) (rangeB 48 57) := by simp [classF, nAlpha, nDigit, nAlnum, nUpper, nLower, nSpace, nBlank, nPunct, nXdigit, alphaB, digitB]
    have HCL := hid hcl
    clear hcl eAlpha eDigit
    go_upto_region 10 with fail
    refine wp_region_any (by kernel_rfl) ?_
    change wpAny _ _ _ _ _ _ _ (World.drew W6)
    have HCd := HC0.keep ((Below.refl _ _).drew)
    generalize W6.drew = Wd at *
    refine wpAny_ready (rs := [0, 1, 3]) (by kernel_rfl) (by simp) ?_
    refine AllReady.cons (o := { dst := some 23, op := Op.load 141 (Operand.tmp 3), type := 141, pos := "l1_ere.go:381", after := #[], guard := none }) rfl (fun K hK => ?_) ?_
    · refine step_load_row (by rfl) 141 (.tmp 3) (by rfl) A (by kernel_rfl) 141 _ (0, 0) _ HCd.a Tryz.underlying141 rfl (by rw [marksArr_size]; exact hzi.out) ?_
      refine hK _ _ ?_
      clear hK K
      simp only [Act.put]
      refine wpAny_ready (rs := [1, 3]) (by kernel_rfl) (by simp) ?_
      refine AllReady.cons (o := { dst := some 24, op := Op.load 141 (Operand.tmp 4), type := 141, pos := "l1_ere.go:381", after := #[], guard := none }) rfl (fun K hK => ?_) ?_
      · refine step_load_row (by rfl) 141 (.tmp 4) (by rfl) C (by kernel_rfl) 141 _ (0, 0) _ HCd.c Tryz.underlying141 rfl (by rw [marksArr_size]; exact hzi.out) ?_
        refine hK _ _ ?_
        clear hK K
        simp only [Act.put]
        refine wpAny_ready (rs := [2, 3]) (by kernel_rfl) (by simp) ?_
        refine AllReady.cons (o := { dst := some 25, op := Op.call { callee := Callee.value (Operand.func 74), args := #[Operand.tmp 23, Operand.tmp 24], argTypes := #[141, 141] }, type := 141, pos := "l1_ere.go:381", after := #[{ on := 0, ground := Ground.data }, { on := 1, ground := Ground.data }], guard := none }) rfl (fun K hK => ?_) ?_
        · refine step_goE (by rfl) 74 #[.tmp 23, .tmp 24] #[141, 141] (by rfl) #[.agg (marksArr (rangeB 65 90)), .agg (marksArr (rangeB 97 122))] (by kernel_rfl) _ (enterJoined _ _) (joinedE _ _ Wd) ?_
          rintro _ Wd2 ⟨rfl, hbWd2⟩
          have HWd2 := HCd.keep hbWd2
          refine hK _ _ ?_
          clear hK K
          simp only [Act.put]
          refine wpAny_ready (rs := [3]) (by kernel_rfl) (by simp) ?_
          refine AllReady.cons (o := { dst := some 26, op := Op.load 141 (Operand.tmp 5), type := 141, pos := "l1_ere.go:381", after := #[], guard := none }) rfl (fun K hK => ?_) ?_
          · refine step_load_row (by rfl) 141 (.tmp 5) (by rfl) D (by kernel_rfl) 141 _ (0, 0) _ HWd2.d Tryz.underlying141 rfl (by rw [marksArr_size]; exact hzi.out) ?_
            refine hK _ _ ?_
            clear hK K
            simp only [Act.put]
            refine wpAny_ready (rs := [4]) (by kernel_rfl) (by simp) ?_
            refine AllReady.cons (o := { dst := some 27, op := Op.call { callee := Callee.value (Operand.func 74), args := #[Operand.tmp 25, Operand.tmp 26], argTypes := #[141, 141] }, type := 141, pos := "l1_ere.go:381", after := #[{ on := 2, ground := Ground.data }, { on := 3, ground := Ground.data }, { on := 2, ground := Ground.chain }], guard := none }) rfl (fun K hK => ?_) ?_
            · refine step_goE (by rfl) 74 #[.tmp 25, .tmp 26] #[141, 141] (by rfl) #[.agg (marksArr (orB (rangeB 65 90) (rangeB 97 122))), .agg (marksArr (rangeB 48 57))] (by kernel_rfl) _ (enterJoined _ _) (joinedE _ _ Wd2) ?_
              rintro _ Wd24 ⟨rfl, hbWd24⟩
              have HWd24 := HWd2.keep hbWd24
              refine hK _ _ ?_
              clear hK K
              simp only [Act.put]
              refine wpAny_forced [{ dst := none, op := Op.store 141 (Operand.tmp 2) (Operand.tmp 27), type := 0, pos := "l1_ere.go:381", after := #[{ on := 4, ground := Ground.data }, { on := 4, ground := Ground.chain }, { on := 0, ground := Ground.phase }, { on := 1, ground := Ground.phase }, { on := 2, ground := Ground.phase }, { on := 3, ground := Ground.phase }, { on := 4, ground := Ground.phase }], guard := none }] 5 _ _ _ (fun j hj => by have h0 : j = 0 := (by simpa using hj); subst h0; rfl) (by kernel_rfl) ?_
              refine wpList_store_row rfl 141 (.tmp 2) (.tmp 27) rfl w.heap.size (marksArr (orB (orB (rangeB 65 90) (rangeB 97 122)) (rangeB 48 57))) (by kernel_rfl) (by kernel_rfl) 141 _ HWd24.r (by rw [marksArr_size]; exact hzi.out) (by rw [marksArr_size, marksArr_size]) (marksArr_one _) ?_
              go_wp2_with fail
              exact bodyPost_ret (v := .agg (marksArr (orB (orB (rangeB 65 90) (rangeB 97 122)) (rangeB 48 57)))) (results_cell_row Tryz.results95 _ _ w.heap.size 141 _ (0, 0) _ rfl (setRow_heap _ _ _ _ _ _ HWd24.r) Tryz.underlying141 rfl (by rw [marksArr_size]; exact hzi.out)) rfl ⟨by rw [HCL.out], Below.setRow HWd24.b HWd24.re _⟩
            exact AllReady.nil
          exact AllReady.nil
        refine AllReady.cons (o := { dst := some 26, op := Op.load 141 (Operand.tmp 5), type := 141, pos := "l1_ere.go:381", after := #[], guard := none }) rfl (fun K hK => ?_) ?_
        · refine step_load_row (by rfl) 141 (.tmp 5) (by rfl) D (by kernel_rfl) 141 _ (0, 0) _ HCd.d Tryz.underlying141 rfl (by rw [marksArr_size]; exact hzi.out) ?_
          refine hK _ _ ?_
          clear hK K
          simp only [Act.put]
          refine wpAny_ready (rs := [2]) (by kernel_rfl) (by simp) ?_
          refine AllReady.cons (o := { dst := some 25, op := Op.call { callee := Callee.value (Operand.func 74), args := #[Operand.tmp 23, Operand.tmp 24], argTypes := #[141, 141] }, type := 141, pos := "l1_ere.go:381", after := #[{ on := 0, ground := Ground.data }, { on := 1, ground := Ground.data }], guard := none }) rfl (fun K hK => ?_) ?_
          · refine step_goE (by rfl) 74 #[.tmp 23, .tmp 24] #[141, 141] (by rfl) #[.agg (marksArr (rangeB 65 90)), .agg (marksArr (rangeB 97 122))] (by kernel_rfl) _ (enterJoined _ _) (joinedE _ _ Wd) ?_
            rintro _ Wd2 ⟨rfl, hbWd2⟩
            have HWd2 := HCd.keep hbWd2
            refine hK _ _ ?_
            clear hK K
            simp only [Act.put]
            refine wpAny_ready (rs := [4]) (by kernel_rfl) (by simp) ?_
            refine AllReady.cons (o := { dst := some 27, op := Op.call { callee := Callee.value (Operand.func 74), args := #[Operand.tmp 25, Operand.tmp 26], argTypes := #[141, 141] }, type := 141, pos := "l1_ere.go:381", after := #[{ on := 2, ground := Ground.data }, { on := 3, ground := Ground.data }, { on := 2, ground := Ground.chain }], guard := none }) rfl (fun K hK => ?_) ?_
            · refine step_goE (by rfl) 74 #[.tmp 25, .tmp 26] #[141, 141] (by rfl) #[.agg (marksArr (orB (rangeB 65 90) (rangeB 97 122))), .agg (marksArr (rangeB 48 57))] (by kernel_rfl) _ (enterJoined _ _) (joinedE _ _ Wd2) ?_
              rintro _ Wd24 ⟨rfl, hbWd24⟩
              have HWd24 := HWd2.keep hbWd24
              refine hK _ _ ?_
              clear hK K
              simp only [Act.put]
              refine wpAny_forced [{ dst := none, op := Op.store 141 (Operand.tmp 2) (Operand.tmp 27), type := 0, pos := "l1_ere.go:381", after := #[{ on := 4, ground := Ground.data }, { on := 4, ground := Ground.chain }, { on := 0, ground := Ground.phase }, { on := 1, ground := Ground.phase }, { on := 2, ground := Ground.phase }, { on := 3, ground := Ground.phase }, { on := 4, ground := Ground.phase }], guard := none }] 5 _ _ _ (fun j hj => by have h0 : j = 0 := (by simpa using hj); subst h0; rfl) (by kernel_rfl) ?_
              refine wpList_store_row rfl 141 (.tmp 2) (.tmp 27) rfl w.heap.size (marksArr (orB (orB (rangeB 65 90) (rangeB 97 122)) (rangeB 48 57))) (by kernel_rfl) (by kernel_rfl) 141 _ HWd24.r (by rw [marksArr_size]; exact hzi.out) (by rw [marksArr_size, marksArr_size]) (marksArr_one _) ?_
              go_wp2_with fail
              exact bodyPost_ret (v := .agg (marksArr (orB (orB (rangeB 65 90) (rangeB 97 122)) (rangeB 48 57)))) (results_cell_row Tryz.results95 _ _ w.heap.size 141 _ (0, 0) _ rfl (setRow_heap _ _ _ _ _ _ HWd24.r) Tryz.underlying141 rfl (by rw [marksArr_size]; exact hzi.out)) rfl ⟨by rw [HCL.out], Below.setRow HWd24.b HWd24.re _⟩
            exact AllReady.nil
          exact AllReady.nil
        exact AllReady.nil
      refine AllReady.cons (o := { dst := some 26, op := Op.load 141 (Operand.tmp 5), type := 141, pos := "l1_ere.go:381", after := #[], guard := none }) rfl (fun K hK => ?_) ?_
      · refine step_load_row (by rfl) 141 (.tmp 5) (by rfl) D (by kernel_rfl) 141 _ (0, 0) _ HCd.d Tryz.underlying141 rfl (by rw [marksArr_size]; exact hzi.out) ?_
        refine hK _ _ ?_
        clear hK K
        simp only [Act.put]
        refine wpAny_ready (rs := [1]) (by kernel_rfl) (by simp) ?_
        refine AllReady.cons (o := { dst := some 24, op := Op.load 141 (Operand.tmp 4), type := 141, pos := "l1_ere.go:381", after := #[], guard := none }) rfl (fun K hK => ?_) ?_
        · refine step_load_row (by rfl) 141 (.tmp 4) (by rfl) C (by kernel_rfl) 141 _ (0, 0) _ HCd.c Tryz.underlying141 rfl (by rw [marksArr_size]; exact hzi.out) ?_
          refine hK _ _ ?_
          clear hK K
          simp only [Act.put]
          refine wpAny_ready (rs := [2]) (by kernel_rfl) (by simp) ?_
          refine AllReady.cons (o := { dst := some 25, op := Op.call { callee := Callee.value (Operand.func 74), args := #[Operand.tmp 23, Operand.tmp 24], argTypes := #[141, 141] }, type := 141, pos := "l1_ere.go:381", after := #[{ on := 0, ground := Ground.data }, { on := 1, ground := Ground.data }], guard := none }) rfl (fun K hK => ?_) ?_
          · refine step_goE (by rfl) 74 #[.tmp 23, .tmp 24] #[141, 141] (by rfl) #[.agg (marksArr (rangeB 65 90)), .agg (marksArr (rangeB 97 122))] (by kernel_rfl) _ (enterJoined _ _) (joinedE _ _ Wd) ?_
            rintro _ Wd2 ⟨rfl, hbWd2⟩
            have HWd2 := HCd.keep hbWd2
            refine hK _ _ ?_
            clear hK K
            simp only [Act.put]
            refine wpAny_ready (rs := [4]) (by kernel_rfl) (by simp) ?_
            refine AllReady.cons (o := { dst := some 27, op := Op.call { callee := Callee.value (Operand.func 74), args := #[Operand.tmp 25, Operand.tmp 26], argTypes := #[141, 141] }, type := 141, pos := "l1_ere.go:381", after := #[{ on := 2, ground := Ground.data }, { on := 3, ground := Ground.data }, { on := 2, ground := Ground.chain }], guard := none }) rfl (fun K hK => ?_) ?_
            · refine step_goE (by rfl) 74 #[.tmp 25, .tmp 26] #[141, 141] (by rfl) #[.agg (marksArr (orB (rangeB 65 90) (rangeB 97 122))), .agg (marksArr (rangeB 48 57))] (by kernel_rfl) _ (enterJoined _ _) (joinedE _ _ Wd2) ?_
              rintro _ Wd24 ⟨rfl, hbWd24⟩
              have HWd24 := HWd2.keep hbWd24
              refine hK _ _ ?_
              clear hK K
              simp only [Act.put]
              refine wpAny_forced [{ dst := none, op := Op.store 141 (Operand.tmp 2) (Operand.tmp 27), type := 0, pos := "l1_ere.go:381", after := #[{ on := 4, ground := Ground.data }, { on := 4, ground := Ground.chain }, { on := 0, ground := Ground.phase }, { on := 1, ground := Ground.phase }, { on := 2, ground := Ground.phase }, { on := 3, ground := Ground.phase }, { on := 4, ground := Ground.phase }], guard := none }] 5 _ _ _ (fun j hj => by have h0 : j = 0 := (by simpa using hj); subst h0; rfl) (by kernel_rfl) ?_
              refine wpList_store_row rfl 141 (.tmp 2) (.tmp 27) rfl w.heap.size (marksArr (orB (orB (rangeB 65 90) (rangeB 97 122)) (rangeB 48 57))) (by kernel_rfl) (by kernel_rfl) 141 _ HWd24.r (by rw [marksArr_size]; exact hzi.out) (by rw [marksArr_size, marksArr_size]) (marksArr_one _) ?_
              go_wp2_with fail
              exact bodyPost_ret (v := .agg (marksArr (orB (orB (rangeB 65 90) (rangeB 97 122)) (rangeB 48 57)))) (results_cell_row Tryz.results95 _ _ w.heap.size 141 _ (0, 0) _ rfl (setRow_heap _ _ _ _ _ _ HWd24.r) Tryz.underlying141 rfl (by rw [marksArr_size]; exact hzi.out)) rfl ⟨by rw [HCL.out], Below.setRow HWd24.b HWd24.re _⟩
            exact AllReady.nil
          exact AllReady.nil
        exact AllReady.nil
      exact AllReady.nil
    refine AllReady.cons (o := { dst := some 24, op := Op.load 141 (Operand.tmp 4), type := 141, pos := "l1_ere.go:381", after := #[], guard := none }) rfl (fun K hK => ?_) ?_
    · refine step_load_row (by rfl) 141 (.tmp 4) (by rfl) C (by kernel_rfl) 141 _ (0, 0) _ HCd.c Tryz.underlying141 rfl (by rw [marksArr_size]; exact hzi.out) ?_
      refine hK _ _ ?_
      clear hK K
      simp only [Act.put]
      refine wpAny_ready (rs := [0, 3]) (by kernel_rfl) (by simp) ?_
      refine AllReady.cons (o := { dst := some 23, op := Op.load 141 (Operand.tmp 3), type := 141, pos := "l1_ere.go:381", after := #[], guard := none }) rfl (fun K hK => ?_) ?_
      · refine step_load_row (by rfl) 141 (.tmp 3) (by rfl) A (by kernel_rfl) 141 _ (0, 0) _ HCd.a Tryz.underlying141 rfl (by rw [marksArr_size]; exact hzi.out) ?_
        refine hK _ _ ?_
        clear hK K
        simp only [Act.put]
        refine wpAny_ready (rs := [2, 3]) (by kernel_rfl) (by simp) ?_
        refine AllReady.cons (o := { dst := some 25, op := Op.call { callee := Callee.value (Operand.func 74), args := #[Operand.tmp 23, Operand.tmp 24], argTypes := #[141, 141] }, type := 141, pos := "l1_ere.go:381", after := #[{ on := 0, ground := Ground.data }, { on := 1, ground := Ground.data }], guard := none }) rfl (fun K hK => ?_) ?_
        · refine step_goE (by rfl) 74 #[.tmp 23, .tmp 24] #[141, 141] (by rfl) #[.agg (marksArr (rangeB 65 90)), .agg (marksArr (rangeB 97 122))] (by kernel_rfl) _ (enterJoined _ _) (joinedE _ _ Wd) ?_
          rintro _ Wd2 ⟨rfl, hbWd2⟩
          have HWd2 := HCd.keep hbWd2
          refine hK _ _ ?_
          clear hK K
          simp only [Act.put]
          refine wpAny_ready (rs := [3]) (by kernel_rfl) (by simp) ?_
          refine AllReady.cons (o := { dst := some 26, op := Op.load 141 (Operand.tmp 5), type := 141, pos := "l1_ere.go:381", after := #[], guard := none }) rfl (fun K hK => ?_) ?_
          · refine step_load_row (by rfl) 141 (.tmp 5) (by rfl) D (by kernel_rfl) 141 _ (0, 0) _ HWd2.d Tryz.underlying141 rfl (by rw [marksArr_size]; exact hzi.out) ?_
            refine hK _ _ ?_
            clear hK K
            simp only [Act.put]
            refine wpAny_ready (rs := [4]) (by kernel_rfl) (by simp) ?_
            refine AllReady.cons (o := { dst := some 27, op := Op.call { callee := Callee.value (Operand.func 74), args := #[Operand.tmp 25, Operand.tmp 26], argTypes := #[141, 141] }, type := 141, pos := "l1_ere.go:381", after := #[{ on := 2, ground := Ground.data }, { on := 3, ground := Ground.data }, { on := 2, ground := Ground.chain }], guard := none }) rfl (fun K hK => ?_) ?_
            · refine step_goE (by rfl) 74 #[.tmp 25, .tmp 26] #[141, 141] (by rfl) #[.agg (marksArr (orB (rangeB 65 90) (rangeB 97 122))), .agg (marksArr (rangeB 48 57))] (by kernel_rfl) _ (enterJoined _ _) (joinedE _ _ Wd2) ?_
              rintro _ Wd24 ⟨rfl, hbWd24⟩
              have HWd24 := HWd2.keep hbWd24
              refine hK _ _ ?_
              clear hK K
              simp only [Act.put]
              refine wpAny_forced [{ dst := none, op := Op.store 141 (Operand.tmp 2) (Operand.tmp 27), type := 0, pos := "l1_ere.go:381", after := #[{ on := 4, ground := Ground.data }, { on := 4, ground := Ground.chain }, { on := 0, ground := Ground.phase }, { on := 1, ground := Ground.phase }, { on := 2, ground := Ground.phase }, { on := 3, ground := Ground.phase }, { on := 4, ground := Ground.phase }], guard := none }] 5 _ _ _ (fun j hj => by have h0 : j = 0 := (by simpa using hj); subst h0; rfl) (by kernel_rfl) ?_
              refine wpList_store_row rfl 141 (.tmp 2) (.tmp 27) rfl w.heap.size (marksArr (orB (orB (rangeB 65 90) (rangeB 97 122)) (rangeB 48 57))) (by kernel_rfl) (by kernel_rfl) 141 _ HWd24.r (by rw [marksArr_size]; exact hzi.out) (by rw [marksArr_size, marksArr_size]) (marksArr_one _) ?_
              go_wp2_with fail
              exact bodyPost_ret (v := .agg (marksArr (orB (orB (rangeB 65 90) (rangeB 97 122)) (rangeB 48 57)))) (results_cell_row Tryz.results95 _ _ w.heap.size 141 _ (0, 0) _ rfl (setRow_heap _ _ _ _ _ _ HWd24.r) Tryz.underlying141 rfl (by rw [marksArr_size]; exact hzi.out)) rfl ⟨by rw [HCL.out], Below.setRow HWd24.b HWd24.re _⟩
            exact AllReady.nil
          exact AllReady.nil
        refine AllReady.cons (o := { dst := some 26, op := Op.load 141 (Operand.tmp 5), type := 141, pos := "l1_ere.go:381", after := #[], guard := none }) rfl (fun K hK => ?_) ?_
        · refine step_load_row (by rfl) 141 (.tmp 5) (by rfl) D (by kernel_rfl) 141 _ (0, 0) _ HCd.d Tryz.underlying141 rfl (by rw [marksArr_size]; exact hzi.out) ?_
          refine hK _ _ ?_
          clear hK K
          simp only [Act.put]
          refine wpAny_ready (rs := [2]) (by kernel_rfl) (by simp) ?_
          refine AllReady.cons (o := { dst := some 25, op := Op.call { callee := Callee.value (Operand.func 74), args := #[Operand.tmp 23, Operand.tmp 24], argTypes := #[141, 141] }, type := 141, pos := "l1_ere.go:381", after := #[{ on := 0, ground := Ground.data }, { on := 1, ground := Ground.data }], guard := none }) rfl (fun K hK => ?_) ?_
          · refine step_goE (by rfl) 74 #[.tmp 23, .tmp 24] #[141, 141] (by rfl) #[.agg (marksArr (rangeB 65 90)), .agg (marksArr (rangeB 97 122))] (by kernel_rfl) _ (enterJoined _ _) (joinedE _ _ Wd) ?_
            rintro _ Wd2 ⟨rfl, hbWd2⟩
            have HWd2 := HCd.keep hbWd2
            refine hK _ _ ?_
            clear hK K
            simp only [Act.put]
            refine wpAny_ready (rs := [4]) (by kernel_rfl) (by simp) ?_
            refine AllReady.cons (o := { dst := some 27, op := Op.call { callee := Callee.value (Operand.func 74), args := #[Operand.tmp 25, Operand.tmp 26], argTypes := #[141, 141] }, type := 141, pos := "l1_ere.go:381", after := #[{ on := 2, ground := Ground.data }, { on := 3, ground := Ground.data }, { on := 2, ground := Ground.chain }], guard := none }) rfl (fun K hK => ?_) ?_
            · refine step_goE (by rfl) 74 #[.tmp 25, .tmp 26] #[141, 141] (by rfl) #[.agg (marksArr (orB (rangeB 65 90) (rangeB 97 122))), .agg (marksArr (rangeB 48 57))] (by kernel_rfl) _ (enterJoined _ _) (joinedE _ _ Wd2) ?_
              rintro _ Wd24 ⟨rfl, hbWd24⟩
              have HWd24 := HWd2.keep hbWd24
              refine hK _ _ ?_
              clear hK K
              simp only [Act.put]
              refine wpAny_forced [{ dst := none, op := Op.store 141 (Operand.tmp 2) (Operand.tmp 27), type := 0, pos := "l1_ere.go:381", after := #[{ on := 4, ground := Ground.data }, { on := 4, ground := Ground.chain }, { on := 0, ground := Ground.phase }, { on := 1, ground := Ground.phase }, { on := 2, ground := Ground.phase }, { on := 3, ground := Ground.phase }, { on := 4, ground := Ground.phase }], guard := none }] 5 _ _ _ (fun j hj => by have h0 : j = 0 := (by simpa using hj); subst h0; rfl) (by kernel_rfl) ?_
              refine wpList_store_row rfl 141 (.tmp 2) (.tmp 27) rfl w.heap.size (marksArr (orB (orB (rangeB 65 90) (rangeB 97 122)) (rangeB 48 57))) (by kernel_rfl) (by kernel_rfl) 141 _ HWd24.r (by rw [marksArr_size]; exact hzi.out) (by rw [marksArr_size, marksArr_size]) (marksArr_one _) ?_
              go_wp2_with fail
              exact bodyPost_ret (v := .agg (marksArr (orB (orB (rangeB 65 90) (rangeB 97 122)) (rangeB 48 57)))) (results_cell_row Tryz.results95 _ _ w.heap.size 141 _ (0, 0) _ rfl (setRow_heap _ _ _ _ _ _ HWd24.r) Tryz.underlying141 rfl (by rw [marksArr_size]; exact hzi.out)) rfl ⟨by rw [HCL.out], Below.setRow HWd24.b HWd24.re _⟩
            exact AllReady.nil
          exact AllReady.nil
        exact AllReady.nil
      refine AllReady.cons (o := { dst := some 26, op := Op.load 141 (Operand.tmp 5), type := 141, pos := "l1_ere.go:381", after := #[], guard := none }) rfl (fun K hK => ?_) ?_
      · refine step_load_row (by rfl) 141 (.tmp 5) (by rfl) D (by kernel_rfl) 141 _ (0, 0) _ HCd.d Tryz.underlying141 rfl (by rw [marksArr_size]; exact hzi.out) ?_
        refine hK _ _ ?_
        clear hK K
        simp only [Act.put]
        refine wpAny_ready (rs := [0]) (by kernel_rfl) (by simp) ?_
        refine AllReady.cons (o := { dst := some 23, op := Op.load 141 (Operand.tmp 3), type := 141, pos := "l1_ere.go:381", after := #[], guard := none }) rfl (fun K hK => ?_) ?_
        · refine step_load_row (by rfl) 141 (.tmp 3) (by rfl) A (by kernel_rfl) 141 _ (0, 0) _ HCd.a Tryz.underlying141 rfl (by rw [marksArr_size]; exact hzi.out) ?_
          refine hK _ _ ?_
          clear hK K
          simp only [Act.put]
          refine wpAny_ready (rs := [2]) (by kernel_rfl) (by simp) ?_
          refine AllReady.cons (o := { dst := some 25, op := Op.call { callee := Callee.value (Operand.func 74), args := #[Operand.tmp 23, Operand.tmp 24], argTypes := #[141, 141] }, type := 141, pos := "l1_ere.go:381", after := #[{ on := 0, ground := Ground.data }, { on := 1, ground := Ground.data }], guard := none }) rfl (fun K hK => ?_) ?_
          · refine step_goE (by rfl) 74 #[.tmp 23, .tmp 24] #[141, 141] (by rfl) #[.agg (marksArr (rangeB 65 90)), .agg (marksArr (rangeB 97 122))] (by kernel_rfl) _ (enterJoined _ _) (joinedE _ _ Wd) ?_
            rintro _ Wd2 ⟨rfl, hbWd2⟩
            have HWd2 := HCd.keep hbWd2
            refine hK _ _ ?_
            clear hK K
            simp only [Act.put]
            refine wpAny_ready (rs := [4]) (by kernel_rfl) (by simp) ?_
            refine AllReady.cons (o := { dst := some 27, op := Op.call { callee := Callee.value (Operand.func 74), args := #[Operand.tmp 25, Operand.tmp 26], argTypes := #[141, 141] }, type := 141, pos := "l1_ere.go:381", after := #[{ on := 2, ground := Ground.data }, { on := 3, ground := Ground.data }, { on := 2, ground := Ground.chain }], guard := none }) rfl (fun K hK => ?_) ?_
            · refine step_goE (by rfl) 74 #[.tmp 25, .tmp 26] #[141, 141] (by rfl) #[.agg (marksArr (orB (rangeB 65 90) (rangeB 97 122))), .agg (marksArr (rangeB 48 57))] (by kernel_rfl) _ (enterJoined _ _) (joinedE _ _ Wd2) ?_
              rintro _ Wd24 ⟨rfl, hbWd24⟩
              have HWd24 := HWd2.keep hbWd24
              refine hK _ _ ?_
              clear hK K
              simp only [Act.put]
              refine wpAny_forced [{ dst := none, op := Op.store 141 (Operand.tmp 2) (Operand.tmp 27), type := 0, pos := "l1_ere.go:381", after := #[{ on := 4, ground := Ground.data }, { on := 4, ground := Ground.chain }, { on := 0, ground := Ground.phase }, { on := 1, ground := Ground.phase }, { on := 2, ground := Ground.phase }, { on := 3, ground := Ground.phase }, { on := 4, ground := Ground.phase }], guard := none }] 5 _ _ _ (fun j hj => by have h0 : j = 0 := (by simpa using hj); subst h0; rfl) (by kernel_rfl) ?_
              refine wpList_store_row rfl 141 (.tmp 2) (.tmp 27) rfl w.heap.size (marksArr (orB (orB (rangeB 65 90) (rangeB 97 122)) (rangeB 48 57))) (by kernel_rfl) (by kernel_rfl) 141 _ HWd24.r (by rw [marksArr_size]; exact hzi.out) (by rw [marksArr_size, marksArr_size]) (marksArr_one _) ?_
              go_wp2_with fail
              exact bodyPost_ret (v := .agg (marksArr (orB (orB (rangeB 65 90) (rangeB 97 122)) (rangeB 48 57)))) (results_cell_row Tryz.results95 _ _ w.heap.size 141 _ (0, 0) _ rfl (setRow_heap _ _ _ _ _ _ HWd24.r) Tryz.underlying141 rfl (by rw [marksArr_size]; exact hzi.out)) rfl ⟨by rw [HCL.out], Below.setRow HWd24.b HWd24.re _⟩
            exact AllReady.nil
          exact AllReady.nil
        exact AllReady.nil
      exact AllReady.nil
    refine AllReady.cons (o := { dst := some 26, op := Op.load 141 (Operand.tmp 5), type := 141, pos := "l1_ere.go:381", after := #[], guard := none }) rfl (fun K hK => ?_) ?_
    · refine step_load_row (by rfl) 141 (.tmp 5) (by rfl) D (by kernel_rfl) 141 _ (0, 0) _ HCd.d Tryz.underlying141 rfl (by rw [marksArr_size]; exact hzi.out) ?_
      refine hK _ _ ?_
      clear hK K
      simp only [Act.put]
      refine wpAny_ready (rs := [0, 1]) (by kernel_rfl) (by simp) ?_
      refine AllReady.cons (o := { dst := some 23, op := Op.load 141 (Operand.tmp 3), type := 141, pos := "l1_ere.go:381", after := #[], guard := none }) rfl (fun K hK => ?_) ?_
      · refine step_load_row (by rfl) 141 (.tmp 3) (by rfl) A (by kernel_rfl) 141 _ (0, 0) _ HCd.a Tryz.underlying141 rfl (by rw [marksArr_size]; exact hzi.out) ?_
        refine hK _ _ ?_
        clear hK K
        simp only [Act.put]
        refine wpAny_ready (rs := [1]) (by kernel_rfl) (by simp) ?_
        refine AllReady.cons (o := { dst := some 24, op := Op.load 141 (Operand.tmp 4), type := 141, pos := "l1_ere.go:381", after := #[], guard := none }) rfl (fun K hK => ?_) ?_
        · refine step_load_row (by rfl) 141 (.tmp 4) (by rfl) C (by kernel_rfl) 141 _ (0, 0) _ HCd.c Tryz.underlying141 rfl (by rw [marksArr_size]; exact hzi.out) ?_
          refine hK _ _ ?_
          clear hK K
          simp only [Act.put]
          refine wpAny_ready (rs := [2]) (by kernel_rfl) (by simp) ?_
          refine AllReady.cons (o := { dst := some 25, op := Op.call { callee := Callee.value (Operand.func 74), args := #[Operand.tmp 23, Operand.tmp 24], argTypes := #[141, 141] }, type := 141, pos := "l1_ere.go:381", after := #[{ on := 0, ground := Ground.data }, { on := 1, ground := Ground.data }], guard := none }) rfl (fun K hK => ?_) ?_
          · refine step_goE (by rfl) 74 #[.tmp 23, .tmp 24] #[141, 141] (by rfl) #[.agg (marksArr (rangeB 65 90)), .agg (marksArr (rangeB 97 122))] (by kernel_rfl) _ (enterJoined _ _) (joinedE _ _ Wd) ?_
            rintro _ Wd2 ⟨rfl, hbWd2⟩
            have HWd2 := HCd.keep hbWd2
            refine hK _ _ ?_
            clear hK K
            simp only [Act.put]
            refine wpAny_ready (rs := [4]) (by kernel_rfl) (by simp) ?_
            refine AllReady.cons (o := { dst := some 27, op := Op.call { callee := Callee.value (Operand.func 74), args := #[Operand.tmp 25, Operand.tmp 26], argTypes := #[141, 141] }, type := 141, pos := "l1_ere.go:381", after := #[{ on := 2, ground := Ground.data }, { on := 3, ground := Ground.data }, { on := 2, ground := Ground.chain }], guard := none }) rfl (fun K hK => ?_) ?_
            · refine step_goE (by rfl) 74 #[.tmp 25, .tmp 26] #[141, 141] (by rfl) #[.agg (marksArr (orB (rangeB 65 90) (rangeB 97 122))), .agg (marksArr (rangeB 48 57))] (by kernel_rfl) _ (enterJoined _ _) (joinedE _ _ Wd2) ?_
              rintro _ Wd24 ⟨rfl, hbWd24⟩
              have HWd24 := HWd2.keep hbWd24
              refine hK _ _ ?_
              clear hK K
              simp only [Act.put]
              refine wpAny_forced [{ dst := none, op := Op.store 141 (Operand.tmp 2) (Operand.tmp 27), type := 0, pos := "l1_ere.go:381", after := #[{ on := 4, ground := Ground.data }, { on := 4, ground := Ground.chain }, { on := 0, ground := Ground.phase }, { on := 1, ground := Ground.phase }, { on := 2, ground := Ground.phase }, { on := 3, ground := Ground.phase }, { on := 4, ground := Ground.phase }], guard := none }] 5 _ _ _ (fun j hj => by have h0 : j = 0 := (by simpa using hj); subst h0; rfl) (by kernel_rfl) ?_
              refine wpList_store_row rfl 141 (.tmp 2) (.tmp 27) rfl w.heap.size (marksArr (orB (orB (rangeB 65 90) (rangeB 97 122)) (rangeB 48 57))) (by kernel_rfl) (by kernel_rfl) 141 _ HWd24.r (by rw [marksArr_size]; exact hzi.out) (by rw [marksArr_size, marksArr_size]) (marksArr_one _) ?_
              go_wp2_with fail
              exact bodyPost_ret (v := .agg (marksArr (orB (orB (rangeB 65 90) (rangeB 97 122)) (rangeB 48 57)))) (results_cell_row Tryz.results95 _ _ w.heap.size 141 _ (0, 0) _ rfl (setRow_heap _ _ _ _ _ _ HWd24.r) Tryz.underlying141 rfl (by rw [marksArr_size]; exact hzi.out)) rfl ⟨by rw [HCL.out], Below.setRow HWd24.b HWd24.re _⟩
            exact AllReady.nil
          exact AllReady.nil
        exact AllReady.nil
      refine AllReady.cons (o := { dst := some 24, op := Op.load 141 (Operand.tmp 4), type := 141, pos := "l1_ere.go:381", after := #[], guard := none }) rfl (fun K hK => ?_) ?_
      · refine step_load_row (by rfl) 141 (.tmp 4) (by rfl) C (by kernel_rfl) 141 _ (0, 0) _ HCd.c Tryz.underlying141 rfl (by rw [marksArr_size]; exact hzi.out) ?_
        refine hK _ _ ?_
        clear hK K
        simp only [Act.put]
        refine wpAny_ready (rs := [0]) (by kernel_rfl) (by simp) ?_
        refine AllReady.cons (o := { dst := some 23, op := Op.load 141 (Operand.tmp 3), type := 141, pos := "l1_ere.go:381", after := #[], guard := none }) rfl (fun K hK => ?_) ?_
        · refine step_load_row (by rfl) 141 (.tmp 3) (by rfl) A (by kernel_rfl) 141 _ (0, 0) _ HCd.a Tryz.underlying141 rfl (by rw [marksArr_size]; exact hzi.out) ?_
          refine hK _ _ ?_
          clear hK K
          simp only [Act.put]
          refine wpAny_ready (rs := [2]) (by kernel_rfl) (by simp) ?_
          refine AllReady.cons (o := { dst := some 25, op := Op.call { callee := Callee.value (Operand.func 74), args := #[Operand.tmp 23, Operand.tmp 24], argTypes := #[141, 141] }, type := 141, pos := "l1_ere.go:381", after := #[{ on := 0, ground := Ground.data }, { on := 1, ground := Ground.data }], guard := none }) rfl (fun K hK => ?_) ?_
          · refine step_goE (by rfl) 74 #[.tmp 23, .tmp 24] #[141, 141] (by rfl) #[.agg (marksArr (rangeB 65 90)), .agg (marksArr (rangeB 97 122))] (by kernel_rfl) _ (enterJoined _ _) (joinedE _ _ Wd) ?_
            rintro _ Wd2 ⟨rfl, hbWd2⟩
            have HWd2 := HCd.keep hbWd2
            refine hK _ _ ?_
            clear hK K
            simp only [Act.put]
            refine wpAny_ready (rs := [4]) (by kernel_rfl) (by simp) ?_
            refine AllReady.cons (o := { dst := some 27, op := Op.call { callee := Callee.value (Operand.func 74), args := #[Operand.tmp 25, Operand.tmp 26], argTypes := #[141, 141] }, type := 141, pos := "l1_ere.go:381", after := #[{ on := 2, ground := Ground.data }, { on := 3, ground := Ground.data }, { on := 2, ground := Ground.chain }], guard := none }) rfl (fun K hK => ?_) ?_
            · refine step_goE (by rfl) 74 #[.tmp 25, .tmp 26] #[141, 141] (by rfl) #[.agg (marksArr (orB (rangeB 65 90) (rangeB 97 122))), .agg (marksArr (rangeB 48 57))] (by kernel_rfl) _ (enterJoined _ _) (joinedE _ _ Wd2) ?_
              rintro _ Wd24 ⟨rfl, hbWd24⟩
              have HWd24 := HWd2.keep hbWd24
              refine hK _ _ ?_
              clear hK K
              simp only [Act.put]
              refine wpAny_forced [{ dst := none, op := Op.store 141 (Operand.tmp 2) (Operand.tmp 27), type := 0, pos := "l1_ere.go:381", after := #[{ on := 4, ground := Ground.data }, { on := 4, ground := Ground.chain }, { on := 0, ground := Ground.phase }, { on := 1, ground := Ground.phase }, { on := 2, ground := Ground.phase }, { on := 3, ground := Ground.phase }, { on := 4, ground := Ground.phase }], guard := none }] 5 _ _ _ (fun j hj => by have h0 : j = 0 := (by simpa using hj); subst h0; rfl) (by kernel_rfl) ?_
              refine wpList_store_row rfl 141 (.tmp 2) (.tmp 27) rfl w.heap.size (marksArr (orB (orB (rangeB 65 90) (rangeB 97 122)) (rangeB 48 57))) (by kernel_rfl) (by kernel_rfl) 141 _ HWd24.r (by rw [marksArr_size]; exact hzi.out) (by rw [marksArr_size, marksArr_size]) (marksArr_one _) ?_
              go_wp2_with fail
              exact bodyPost_ret (v := .agg (marksArr (orB (orB (rangeB 65 90) (rangeB 97 122)) (rangeB 48 57)))) (results_cell_row Tryz.results95 _ _ w.heap.size 141 _ (0, 0) _ rfl (setRow_heap _ _ _ _ _ _ HWd24.r) Tryz.underlying141 rfl (by rw [marksArr_size]; exact hzi.out)) rfl ⟨by rw [HCL.out], Below.setRow HWd24.b HWd24.re _⟩
            exact AllReady.nil
          exact AllReady.nil
        exact AllReady.nil
      exact AllReady.nil
    exact AllReady.nil
  by_cases eUpper : t = ⟨#[117, 112, 112, 101, 114]⟩
  · subst eUpper
    have hcl : (classF [117, 112, 112, 101, 114]).getD noB = rangeB 65 90 := by simp [classF, nAlpha, nDigit, nAlnum, nUpper, nLower, nSpace, nBlank, nPunct, nXdigit, alphaB, digitB]
    have HCL := hid hcl
    clear hcl eAlpha eDigit eAlnum
    go_wp2_with (first | (refine wpList_load_row rfl 141 (.tmp 3) rfl A rfl 141 _ (0, 0) _ HC0.a Tryz.underlying141 rfl (by rw [marksArr_size]; exact hzi.out) ?_) | (refine wpList_store_row rfl 141 (.tmp 2) _ rfl w.heap.size _ rfl rfl 141 _ HC0.r (by rw [marksArr_size]; exact hzi.out) (by rw [marksArr_size, marksArr_size]) (marksArr_one _) ?_))
    exact bodyPost_ret (v := .agg (marksArr (rangeB 65 90))) (results_cell_row Tryz.results95 _ _ w.heap.size 141 _ (0, 0) _ rfl (setRow_heap _ _ _ _ _ _ HC0.r) Tryz.underlying141 rfl (by rw [marksArr_size]; exact hzi.out)) rfl ⟨by rw [HCL.out], Below.setRow HC0.b HC0.re _⟩
  by_cases eLower : t = ⟨#[108, 111, 119, 101, 114]⟩
  · subst eLower
    have hcl : (classF [108, 111, 119, 101, 114]).getD noB = rangeB 97 122 := by simp [classF, nAlpha, nDigit, nAlnum, nUpper, nLower, nSpace, nBlank, nPunct, nXdigit, alphaB, digitB]
    have HCL := hid hcl
    clear hcl eAlpha eDigit eAlnum eUpper
    go_wp2_with (first | (refine wpList_load_row rfl 141 (.tmp 4) rfl C rfl 141 _ (0, 0) _ HC0.c Tryz.underlying141 rfl (by rw [marksArr_size]; exact hzi.out) ?_) | (refine wpList_store_row rfl 141 (.tmp 2) _ rfl w.heap.size _ rfl rfl 141 _ HC0.r (by rw [marksArr_size]; exact hzi.out) (by rw [marksArr_size, marksArr_size]) (marksArr_one _) ?_))
    exact bodyPost_ret (v := .agg (marksArr (rangeB 97 122))) (results_cell_row Tryz.results95 _ _ w.heap.size 141 _ (0, 0) _ rfl (setRow_heap _ _ _ _ _ _ HC0.r) Tryz.underlying141 rfl (by rw [marksArr_size]; exact hzi.out)) rfl ⟨by rw [HCL.out], Below.setRow HC0.b HC0.re _⟩
  by_cases eSpace : t = ⟨#[115, 112, 97, 99, 101]⟩
  · subst eSpace
    have hcl : (classF [115, 112, 97, 99, 101]).getD noB = orB (rangeB 9 13) (rangeB 32 32) := by simp [classF, nAlpha, nDigit, nAlnum, nUpper, nLower, nSpace, nBlank, nPunct, nXdigit, alphaB, digitB]
    have HCL := hid hcl
    clear hcl eAlpha eDigit eAlnum eUpper eLower
    go_wp2_with fail
    refine (with_ok _ 9 13 W6 (by omega) (by omega)).mono ?_
    rintro e w7 ⟨rfl, hb7⟩
    have HC7 := HC0.keep hb7
    rw [markIn_no]
    go_wp2_with fail
    refine (with_ok _ 32 32 w7 (by omega) (by omega)).mono ?_
    rintro e w8 ⟨rfl, hb8⟩
    have HC8 := HC7.keep hb8
    rw [markIn_or]
    go_wp2_with (refine wpList_store_row rfl 141 (.tmp 2) _ rfl w.heap.size _ rfl rfl 141 _ HC8.r (by rw [marksArr_size]; exact hzi.out) (by rw [marksArr_size, marksArr_size]) (marksArr_one _) ?_)
    exact bodyPost_ret (v := .agg (marksArr (orB (rangeB 9 13) (rangeB 32 32)))) (results_cell_row Tryz.results95 _ _ w.heap.size 141 _ (0, 0) _ rfl (setRow_heap _ _ _ _ _ _ HC8.r) Tryz.underlying141 rfl (by rw [marksArr_size]; exact hzi.out)) rfl ⟨by rw [HCL.out], Below.setRow HC8.b HC8.re _⟩
  by_cases eBlank : t = ⟨#[98, 108, 97, 110, 107]⟩
  · subst eBlank
    have hcl : (classF [98, 108, 97, 110, 107]).getD noB = orB (rangeB 9 9) (rangeB 32 32) := by simp [classF, nAlpha, nDigit, nAlnum, nUpper, nLower, nSpace, nBlank, nPunct, nXdigit, alphaB, digitB]
    have HCL := hid hcl
    clear hcl eAlpha eDigit eAlnum eUpper eLower eSpace
    go_wp2_with fail
    refine (with_ok _ 9 9 W6 (by omega) (by omega)).mono ?_
    rintro e w7 ⟨rfl, hb7⟩
    have HC7 := HC0.keep hb7
    rw [markIn_no]
    go_wp2_with fail
    refine (with_ok _ 32 32 w7 (by omega) (by omega)).mono ?_
    rintro e w8 ⟨rfl, hb8⟩
    have HC8 := HC7.keep hb8
    rw [markIn_or]
    go_wp2_with (refine wpList_store_row rfl 141 (.tmp 2) _ rfl w.heap.size _ rfl rfl 141 _ HC8.r (by rw [marksArr_size]; exact hzi.out) (by rw [marksArr_size, marksArr_size]) (marksArr_one _) ?_)
    exact bodyPost_ret (v := .agg (marksArr (orB (rangeB 9 9) (rangeB 32 32)))) (results_cell_row Tryz.results95 _ _ w.heap.size 141 _ (0, 0) _ rfl (setRow_heap _ _ _ _ _ _ HC8.r) Tryz.underlying141 rfl (by rw [marksArr_size]; exact hzi.out)) rfl ⟨by rw [HCL.out], Below.setRow HC8.b HC8.re _⟩
  by_cases ePunct : t = ⟨#[112, 117, 110, 99, 116]⟩
  · subst ePunct
    have hcl : (classF [112, 117, 110, 99, 116]).getD noB = orB (orB (orB (rangeB 33 47) (rangeB 58 64)) (rangeB 91 96)) (rangeB 123 126) := by simp [classF, nAlpha, nDigit, nAlnum, nUpper, nLower, nSpace, nBlank, nPunct, nXdigit, alphaB, digitB]
    have HCL := hid hcl
    clear hcl eAlpha eDigit eAlnum eUpper eLower eSpace eBlank
    go_wp2_with fail
    refine (with_ok _ 33 47 W6 (by omega) (by omega)).mono ?_
    rintro e w7 ⟨rfl, hb7⟩
    have HC7 := HC0.keep hb7
    rw [markIn_no]
    go_wp2_with fail
    refine (with_ok _ 58 64 w7 (by omega) (by omega)).mono ?_
    rintro e w8 ⟨rfl, hb8⟩
    have HC8 := HC7.keep hb8
    rw [markIn_or]
    go_wp2_with fail
    refine (with_ok _ 91 96 w8 (by omega) (by omega)).mono ?_
    rintro e w9 ⟨rfl, hb9⟩
    have HC9 := HC8.keep hb9
    rw [markIn_or]
    go_wp2_with fail
    refine (with_ok _ 123 126 w9 (by omega) (by omega)).mono ?_
    rintro e w10 ⟨rfl, hb10⟩
    have HC10 := HC9.keep hb10
    rw [markIn_or]
    go_wp2_with (refine wpList_store_row rfl 141 (.tmp 2) _ rfl w.heap.size _ rfl rfl 141 _ HC10.r (by rw [marksArr_size]; exact hzi.out) (by rw [marksArr_size, marksArr_size]) (marksArr_one _) ?_)
    exact bodyPost_ret (v := .agg (marksArr (orB (orB (orB (rangeB 33 47) (rangeB 58 64)) (rangeB 91 96)) (rangeB 123 126)))) (results_cell_row Tryz.results95 _ _ w.heap.size 141 _ (0, 0) _ rfl (setRow_heap _ _ _ _ _ _ HC10.r) Tryz.underlying141 rfl (by rw [marksArr_size]; exact hzi.out)) rfl ⟨by rw [HCL.out], Below.setRow HC10.b HC10.re _⟩
  by_cases eXdigit : t = ⟨#[120, 100, 105, 103, 105, 116]⟩
  · subst eXdigit
    have hcl : (classF [120, 100, 105, 103, 105, 116]).getD noB = orB (orB (rangeB 48 57) (rangeB 65 70)) (rangeB 97 102) := by simp [classF, nAlpha, nDigit, nAlnum, nUpper, nLower, nSpace, nBlank, nPunct, nXdigit, alphaB, digitB]
    have HCL := hid hcl
    clear hcl eAlpha eDigit eAlnum eUpper eLower eSpace eBlank ePunct
    go_wp2_with (refine wpList_load_row rfl 141 (.tmp 5) rfl D rfl 141 _ (0, 0) _ HC0.d Tryz.underlying141 rfl (by rw [marksArr_size]; exact hzi.out) ?_)
    refine (with_ok _ 65 70 W6 (by omega) (by omega)).mono ?_
    rintro e w7 ⟨rfl, hb7⟩
    have HC7 := HC0.keep hb7
    rw [markIn_or]
    go_wp2_with fail
    refine (with_ok _ 97 102 w7 (by omega) (by omega)).mono ?_
    rintro e w8 ⟨rfl, hb8⟩
    have HC8 := HC7.keep hb8
    rw [markIn_or]
    go_wp2_with (refine wpList_store_row rfl 141 (.tmp 2) _ rfl w.heap.size _ rfl rfl 141 _ HC8.r (by rw [marksArr_size]; exact hzi.out) (by rw [marksArr_size, marksArr_size]) (marksArr_one _) ?_)
    exact bodyPost_ret (v := .agg (marksArr (orB (orB (rangeB 48 57) (rangeB 65 70)) (rangeB 97 102)))) (results_cell_row Tryz.results95 _ _ w.heap.size 141 _ (0, 0) _ rfl (setRow_heap _ _ _ _ _ _ HC8.r) Tryz.underlying141 rfl (by rw [marksArr_size]; exact hzi.out)) rfl ⟨by rw [HCL.out], Below.setRow HC8.b HC8.re _⟩
  have hcl : (classF t.data.toList).getD noB = (fun _ => false) := by
    have ne : ∀ l : List UInt8, t ≠ ⟨l.toArray⟩ → t.data.toList ≠ l := fun l h e => h (by rw [← e])
    unfold classF
    rw [if_neg (ne nAlpha eAlpha), if_neg (ne nDigit eDigit), if_neg (ne nAlnum eAlnum), if_neg (ne nUpper eUpper), if_neg (ne nLower eLower), if_neg (ne nSpace eSpace), if_neg (ne nBlank eBlank), if_neg (ne nPunct ePunct), if_neg (ne nXdigit eXdigit)]
    rfl
  have qAlpha : (t.toList == [97, 108, 112, 104, 97]) = false := by
    rw [beq_eq_false_iff_ne]
    intro h9
    rw [ByteArray.toList_eq] at h9
    exact eAlpha (by rw [show t = ⟨t.data.toList.toArray⟩ from rfl, h9])
  have qDigit : (t.toList == [100, 105, 103, 105, 116]) = false := by
    rw [beq_eq_false_iff_ne]
    intro h9
    rw [ByteArray.toList_eq] at h9
    exact eDigit (by rw [show t = ⟨t.data.toList.toArray⟩ from rfl, h9])
  have qAlnum : (t.toList == [97, 108, 110, 117, 109]) = false := by
    rw [beq_eq_false_iff_ne]
    intro h9
    rw [ByteArray.toList_eq] at h9
    exact eAlnum (by rw [show t = ⟨t.data.toList.toArray⟩ from rfl, h9])
  have qUpper : (t.toList == [117, 112, 112, 101, 114]) = false := by
    rw [beq_eq_false_iff_ne]
    intro h9
    rw [ByteArray.toList_eq] at h9
    exact eUpper (by rw [show t = ⟨t.data.toList.toArray⟩ from rfl, h9])
  have qLower : (t.toList == [108, 111, 119, 101, 114]) = false := by
    rw [beq_eq_false_iff_ne]
    intro h9
    rw [ByteArray.toList_eq] at h9
    exact eLower (by rw [show t = ⟨t.data.toList.toArray⟩ from rfl, h9])
  have qSpace : (t.toList == [115, 112, 97, 99, 101]) = false := by
    rw [beq_eq_false_iff_ne]
    intro h9
    rw [ByteArray.toList_eq] at h9
    exact eSpace (by rw [show t = ⟨t.data.toList.toArray⟩ from rfl, h9])
  have qBlank : (t.toList == [98, 108, 97, 110, 107]) = false := by
    rw [beq_eq_false_iff_ne]
    intro h9
    rw [ByteArray.toList_eq] at h9
    exact eBlank (by rw [show t = ⟨t.data.toList.toArray⟩ from rfl, h9])
  have qPunct : (t.toList == [112, 117, 110, 99, 116]) = false := by
    rw [beq_eq_false_iff_ne]
    intro h9
    rw [ByteArray.toList_eq] at h9
    exact ePunct (by rw [show t = ⟨t.data.toList.toArray⟩ from rfl, h9])
  have qXdigit : (t.toList == [120, 100, 105, 103, 105, 116]) = false := by
    rw [beq_eq_false_iff_ne]
    intro h9
    rw [ByteArray.toList_eq] at h9
    exact eXdigit (by rw [show t = ⟨t.data.toList.toArray⟩ from rfl, h9])
  have HCL := hid hcl
  clear hcl eAlpha eDigit eAlnum eUpper eLower eSpace eBlank ePunct eXdigit
  have hst := marks_store (fun _ => false) HC0.r
  have hsz := marksArr_size (fun _ => false)
  go_wp2
  exact bodyPost_ret (v := .agg (marksArr (fun _ => false))) (results_cell_row Tryz.results95 _ _ w.heap.size 141 _ (0, 0) _ rfl (setRow_heap _ _ _ _ _ _ HC0.r) Tryz.underlying141 rfl (by rw [marksArr_size]; exact hzi.out)) rfl ⟨by rw [HCL.out], Below.setRow HC0.b HC0.re _⟩
end Go.Proofs.YtgbdlgogccgciaaGreatDoor
