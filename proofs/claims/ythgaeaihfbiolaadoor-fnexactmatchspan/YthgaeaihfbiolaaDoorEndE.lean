import Derived.Test.YthgaeaihfbiolaaDoorEndD
import Derived.Test.YthgaeaihfbiolaaDoorSpecW
import Derived.Deep.RegionHeld3
namespace Go.Proofs.YthgaeaihfbiolaaDoor
open Go.RowKit
attribute [local go_sem ↓] Go.wp_at_zero Go.wp_at_succ

def placedB (bol eol : Bool) (n : Nat) (a e : Nat) (cl : Bool) : Bool := !(bol && !(a == 0)) && (!eol || (cl && e == n))

set_option maxRecDepth 100000 in
set_option maxHeartbeats 400000 in
theorem placed_ok (bol eol cl : Bool) (ao : Option Addr) (k c : Nat) (t : ByteArray) (a e : Nat) (w : World) :
    Calls Tryd.prog 26 #[.agg #[.bool bol, .bool eol, .slice ao k c], .string t, .int .i64 a, .int .i64 e, .bool cl] w fun r w' => r = .returned (.bool (placedB bol eol t.size a e cl)) ∧ Below w.heap.size w w' := by
  have hb : Below w.heap.size w (w.alloc (.cells #[.bool bol, .bool eol, .slice ao k c] 37)) := (Below.refl _ _).alloc (Nat.le_refl _) _
  have h0 : ((a : Int) != 0) = !(a == 0) := by
    by_cases h : a = 0
    · subst h; rfl
    · have : ((a : Int) != 0) = true := by simp; omega
      rw [this]; simp; omega
  have h1 : ((e : Int) == (t.size : Int)) = (e == t.size) := by
    by_cases h : e = t.size
    · subst h; simp
    · have : ((e : Int) == (t.size : Int)) = false := by simp; omega
      rw [this]; simp; omega
  have Hp : Hid (placedB bol eol t.size a e cl = (!(bol && !(a == 0)) && (!eol || (cl && e == t.size)))) := rfl
  cases hz : (a == 0) <;> cases he : (e == t.size) <;> cases bol <;> cases eol <;> cases cl
  all_goals
    rw [hz] at h0 Hp
    rw [he] at h1 Hp
    go_enter Tryd.func26, Tryd.ntmps26
    go_wp2
    go_ret
    exact ⟨ret_bool Hp.out.symm, hb⟩

set_option maxRecDepth 100000 in
set_option maxHeartbeats 400000 in
theorem ready_ok {lo : Nat} (bol eol : Bool) (ao : Option Addr) (c : Nat) (ns : List NodeD) (t : ByteArray) (w : World) (hs : NodesAt lo w (.slice ao ns.length c) ns) (hn : ns.length ≤ 1048576) (hk : kidsB ns = true) :
    Calls Tryd.prog 28 #[.agg #[.bool bol, .bool eol, .slice ao ns.length c], .string t] w fun r w' => Below w.heap.size w w' ∧ ∃ gl cl gr cr, r = .returned (.agg #[.slice ao ns.length c, .slice (some ⟨gl, 0, none⟩) ns.length cl, .slice (some ⟨gr, 0, none⟩) ns.length cr, .string t]) ∧ BrAt w' ns (.slice ao ns.length c) gl gr := by
  have hb : Below w.heap.size w ((w.alloc (.cells #[.bool bol, .bool eol, .slice ao ns.length c] 37)).alloc (.cells #[.slice none 0 0, .slice none 0 0, .slice none 0 0, .string ⟨#[]⟩] 69)) := ((Below.refl _ _).alloc (Nat.le_refl _) _).alloc (by simp) _
  have hKids := fun (W : World) (hb : Below w.heap.size w W) => kids_ok _ ns W (hs.below hb) hn
  go_enter Tryd.func28, Tryd.ntmps28
  go_wp2_with fail
  refine (hKids _ hb).mono ?_
  rintro e w1 ⟨hb1, h | ⟨-, gl, cl, gr, cr, rfl, ol, or_, -⟩⟩
  · rw [hk] at h; cases h.1
  have k0 : ((w.alloc (.cells #[.bool bol, .bool eol, .slice ao ns.length c] 37)).alloc (.cells #[.slice none 0 0, .slice none 0 0, .slice none 0 0, .string ⟨#[]⟩] 69)).heap[w.heap.size]? = some (.cells #[.bool bol, .bool eol, .slice ao ns.length c] 37 (0, 0)) := row_alloc (heap_alloc_new _ _)
  have k1 : ((w.alloc (.cells #[.bool bol, .bool eol, .slice ao ns.length c] 37)).alloc (.cells #[.slice none 0 0, .slice none 0 0, .slice none 0 0, .string ⟨#[]⟩] 69)).heap[w.heap.size + 1]? = some (.cells #[.slice none 0 0, .slice none 0 0, .slice none 0 0, .string ⟨#[]⟩] 69 (0, 0)) := by have := heap_alloc_new (w.alloc (.cells #[.bool bol, .bool eol, .slice ao ns.length c] 37)) (.cells #[.slice none 0 0, .slice none 0 0, .slice none 0 0, .string ⟨#[]⟩] 69); simpa using this
  have p0 := row_below' k0 hb1
  have p1 := row_below' k1 hb1
  have q0 := (cell_of_row _ _ _ _ _ _ p0 : w1.cell? ⟨w.heap.size, 2, none⟩ = _)
  simp at q0
  obtain ⟨d0, d1, d2, d3⟩ := row_four p1
  have f0 : w1.frozen? ⟨w.heap.size + 1, 0, none⟩ = false := by simp [World.frozen?, p1]
  have f1 : w1.frozen? ⟨w.heap.size + 1, 1, none⟩ = false := by simp [World.frozen?, p1]
  have f2 : w1.frozen? ⟨w.heap.size + 1, 2, none⟩ = false := by simp [World.frozen?, p1]
  have f3 : w1.frozen? ⟨w.heap.size + 1, 3, none⟩ = false := by simp [World.frozen?, p1]
  go_wp2
  have hbb : Below w.heap.size w ((((w1.setCell ⟨w.heap.size + 1, 0, none⟩ (.slice ao ns.length c)).setCell ⟨w.heap.size + 1, 1, none⟩ (.slice (some ⟨gl, 0, none⟩) ns.length cl)).setCell ⟨w.heap.size + 1, 2, none⟩ (.slice (some ⟨gr, 0, none⟩) ns.length cr)).setCell ⟨w.heap.size + 1, 3, none⟩ (.string t)) := by
    iterate 4 refine Below.setCell ?_ (by simp) _
    exact below_step hb hb.size hb1
  have hgl := (own_form ol).1
  have hgr := (own_form or_).1
  simp only [World.size_alloc] at hgl hgr
  have hcell : ∀ g o, g ≠ w.heap.size + 1 → ((((w1.setCell ⟨w.heap.size + 1, 0, none⟩ (.slice ao ns.length c)).setCell ⟨w.heap.size + 1, 1, none⟩ (.slice (some ⟨gl, 0, none⟩) ns.length cl)).setCell ⟨w.heap.size + 1, 2, none⟩ (.slice (some ⟨gr, 0, none⟩) ns.length cr)).setCell ⟨w.heap.size + 1, 3, none⟩ (.string t)).cell? ⟨g, o, none⟩ = w1.cell? ⟨g, o, none⟩ := fun g o hg =>
    World.cell?_of_block (w := w1) (by rw [Below.heap_setCell _ _ _ _ hg, Below.heap_setCell _ _ _ _ hg, Below.heap_setCell _ _ _ _ hg, Below.heap_setCell _ _ _ _ hg])
  refine bodyPost_ret (v := .agg #[.slice ao ns.length c, .slice (some ⟨gl, 0, none⟩) ns.length cl, .slice (some ⟨gr, 0, none⟩) ns.length cr, .string t]) (by simp [results, Tryd.results28, go_sem, d0, d1, d2, d3]) rfl ⟨hbb, gl, cl, gr, cr, rfl, (hs.below hbb).mono (Nat.zero_le _), ?_, ?_, fun i hi => ?_, fun i hi => ?_⟩
  · have := own_lt ol; simpa [World.setCell] using this
  · have := own_lt or_; simpa [World.setCell] using this
  · rw [hcell gl i (by omega), ol.cellAt i (by omega)]
    simp [rowL, hi]
  · rw [hcell gr i (by omega), or_.cellAt i (by omega)]
    simp [rowR, hi]
end Go.Proofs.YthgaeaihfbiolaaDoor
