import Derived.Test.YtplhghhfdabccaaDoorFam
namespace Go.Proofs.YtplhghhfdabccaaDoor
open Go.RowKit
attribute [local go_sem ↓] Go.wp_at_zero Go.wp_at_succ

/- COPIES. -/
set_option maxRecDepth 100000 in
set_option maxHeartbeats 1000000 in
theorem clone_ok {lo : Nat} (v : Value) (xs : List Int) (w : World) (hs : IntsAt lo w v xs) (h0 : 0 < xs.length) (h1 : xs.length ≤ 1048576) :
    Calls Tryd.prog 19 #[v] w fun e w' => ∃ g cap, e = .returned (.slice (some ⟨g, 0, none⟩) xs.length cap) ∧ Owns w.heap.size w' (.slice (some ⟨g, 0, none⟩) xs.length cap) xs ∧ Below w.heap.size w w' := by
  obtain ⟨i0, hi, hz0, hz1, hz2⟩ := info_parts Tryd.infoInt
  obtain ⟨ao, rcap, rfl, hm, hc⟩ := hs
  obtain ⟨b, o, rfl, _, hbl, hcell⟩ := hc h0
  have Hc : Hid (∀ j u, (xs.map intV)[j]? = some u → (w.alloc (.cells #[] 3)).cell? ((⟨b, o, none⟩ : Addr).add j) = some u) := fun j u hu => by
    have hj : j < xs.length := by
      have := (List.getElem?_eq_some_iff.1 hu).1
      simpa using this
    have e : (⟨b, o, none⟩ : Addr).add j = ⟨b, o + j, none⟩ := by unfold Addr.add; split <;> simp_all
    rw [e, World.cell?_of_block (Below.heap_alloc _ _ _ hbl), hcell j hj, ← hu]
    simp [List.getD, hj, intV]
  clear hcell hc
  have hnil : Sem.run Tryd.prog (binOp BinOp.eql 22 (.slice (some ⟨b, o, none⟩) xs.length rcap) (.slice none 0 0)) w = .ok (.bool false) w := by kernel_rfl
  go_enter Tryd.func19, Tryd.ntmps19
  go_wp2_with (refine wpList_append_lies _ rfl (.tmp 5) (.tmp 6) 22 rfl w.heap.size 3 i0 _ 1 8 Tryd.underlying22 hi hz0 hz1 hz2 rfl (by omega) (.slice (some ⟨w.heap.size, 0, none⟩) 0 0) 0 [] rfl (ownsRow_new_at w 3 w.heap.size w.heap.size (Nat.le_refl _) rfl) ⟨b, o, none⟩ xs.length rcap (xs.map intV) rfl (by simp) Hc.out (by intro u hu; simp at hu; obtain ⟨y, _, rfl⟩ := hu; rfl) (by omega) (by unfold maxLen; omega) (by omega) (by simp) (w.heap.size + 1) (by simp) ?_; intro g cap w1 own1 grow1 at1 lt1)
  go_ret
  refine ⟨g, cap, by simp, ?_, ?_⟩
  · unfold Owns
    simpa using own1
  · exact ((Below.refl _ _).alloc (Nat.le_refl _) _).grown grow1 (by simp) (by intro k h; simp [Value.ownBlock] at h; omega)
end Go.Proofs.YtplhghhfdabccaaDoor
