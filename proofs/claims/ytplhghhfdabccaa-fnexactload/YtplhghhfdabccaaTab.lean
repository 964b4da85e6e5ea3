import Derived.Test.YtplhghhfdabccaaTabB
namespace Go.Proofs.Ytplhghhfdabccaa
open Go.RowKit

set_option maxRecDepth 100000 in
set_option maxHeartbeats 2000000 in
theorem szTable_ok {lo : Nat} (cv bv fv tv ev nv kv : Value) (d : TabD) (left : Int) (w : World) (hs : TabAt lo w cv bv fv tv ev nv kv d) (h0 : 0 ≤ left) (h1 : left ≤ 1048576) :
    Calls Try.prog 26 #[.agg #[cv, .int .i64 d.width, bv, fv, tv, ev, nv, kv], .int .i64 left] w fun e w' => e = .returned (.int .i64 (szAll d.lists left)) ∧ Below w.heap.size w w' := by
  obtain ⟨⟨a0, p0, rfl, m0, _⟩, ⟨a1, p1, rfl, m1, _⟩, ⟨a2, p2, rfl, m2, _⟩, ⟨a3, p3, rfl, m3, _⟩, ⟨a4, p4, rfl, m4, _⟩, ⟨a5, p5, rfl, m5, _⟩, ⟨a6, p6, rfl, m6, _⟩⟩ := hs
  have H : Hid (szAll d.lists left = szAll [d.classes, d.base, d.dflt, d.tag, d.fin, d.next, d.chk] left) := rfl
  go_enter Try.func26, Try.ntmps26
  go_wp2_with fail
  refine (szIntS_ok _ _ _ _ _ (by omega) (by omega) m0).mono ?_
  rintro e w' ⟨rfl, rfl⟩
  have b0 := szIntsF_le d.classes left (by omega)
  by_cases g0 : szIntsF d.classes left < 0
  · have H2 : Hid (szAll d.lists left = -1) := H.out.trans (szAll_stop g0)
    clear H
    go_wp2
    go_ret
    exact ⟨ret_int H2.out.symm, (Below.refl _ _).alloc (Nat.le_refl _) _⟩
  replace H : Hid _ := H.out.trans (szAll_go g0)
  generalize szIntsF d.classes left = l1 at *
  go_wp2_with fail
  refine (szIntS_ok _ _ _ _ _ (by omega) (by omega) m1).mono ?_
  rintro e w' ⟨rfl, rfl⟩
  have b1 := szIntsF_le d.base l1 (by omega)
  by_cases g1 : szIntsF d.base l1 < 0
  · have H2 : Hid (szAll d.lists left = -1) := H.out.trans (szAll_stop g1)
    clear H
    go_wp2
    go_ret
    exact ⟨ret_int H2.out.symm, (Below.refl _ _).alloc (Nat.le_refl _) _⟩
  replace H : Hid _ := H.out.trans (szAll_go g1)
  generalize szIntsF d.base l1 = l2 at *
  go_wp2_with fail
  refine (szIntS_ok _ _ _ _ _ (by omega) (by omega) m2).mono ?_
  rintro e w' ⟨rfl, rfl⟩
  have b2 := szIntsF_le d.dflt l2 (by omega)
  by_cases g2 : szIntsF d.dflt l2 < 0
  · have H2 : Hid (szAll d.lists left = -1) := H.out.trans (szAll_stop g2)
    clear H
    go_wp2
    go_ret
    exact ⟨ret_int H2.out.symm, (Below.refl _ _).alloc (Nat.le_refl _) _⟩
  replace H : Hid _ := H.out.trans (szAll_go g2)
  generalize szIntsF d.dflt l2 = l3 at *
  go_wp2_with fail
  refine (szIntS_ok _ _ _ _ _ (by omega) (by omega) m3).mono ?_
  rintro e w' ⟨rfl, rfl⟩
  have b3 := szIntsF_le d.tag l3 (by omega)
  by_cases g3 : szIntsF d.tag l3 < 0
  · have H2 : Hid (szAll d.lists left = -1) := H.out.trans (szAll_stop g3)
    clear H
    go_wp2
    go_ret
    exact ⟨ret_int H2.out.symm, (Below.refl _ _).alloc (Nat.le_refl _) _⟩
  replace H : Hid _ := H.out.trans (szAll_go g3)
  generalize szIntsF d.tag l3 = l4 at *
  go_wp2_with fail
  refine (szIntS_ok _ _ _ _ _ (by omega) (by omega) m4).mono ?_
  rintro e w' ⟨rfl, rfl⟩
  have b4 := szIntsF_le d.fin l4 (by omega)
  by_cases g4 : szIntsF d.fin l4 < 0
  · have H2 : Hid (szAll d.lists left = -1) := H.out.trans (szAll_stop g4)
    clear H
    go_wp2
    go_ret
    exact ⟨ret_int H2.out.symm, (Below.refl _ _).alloc (Nat.le_refl _) _⟩
  replace H : Hid _ := H.out.trans (szAll_go g4)
  generalize szIntsF d.fin l4 = l5 at *
  go_wp2_with fail
  refine (szIntS_ok _ _ _ _ _ (by omega) (by omega) m5).mono ?_
  rintro e w' ⟨rfl, rfl⟩
  have b5 := szIntsF_le d.next l5 (by omega)
  by_cases g5 : szIntsF d.next l5 < 0
  · have H2 : Hid (szAll d.lists left = -1) := H.out.trans (szAll_stop g5)
    clear H
    go_wp2
    go_ret
    exact ⟨ret_int H2.out.symm, (Below.refl _ _).alloc (Nat.le_refl _) _⟩
  replace H : Hid _ := H.out.trans (szAll_go g5)
  generalize szIntsF d.next l5 = l6 at *
  go_wp2_with fail
  refine (szIntS_ok _ _ _ _ _ (by omega) (by omega) m6).mono ?_
  rintro e w' ⟨rfl, rfl⟩
  have b6 := szIntsF_le d.chk l6 (by omega)
  by_cases g6 : szIntsF d.chk l6 < 0
  · have H2 : Hid (szAll d.lists left = -1) := H.out.trans (szAll_stop g6)
    clear H
    go_wp2
    go_ret
    exact ⟨ret_int H2.out.symm, (Below.refl _ _).alloc (Nat.le_refl _) _⟩
  replace H : Hid _ := H.out.trans (szAll_go g6)
  generalize szIntsF d.chk l6 = l7 at *
  go_wp2
  go_ret
  exact ⟨ret_int H.out.symm, (Below.refl _ _).alloc (Nat.le_refl _) _⟩
end Go.Proofs.Ytplhghhfdabccaa
