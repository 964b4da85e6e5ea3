import Derived.Test.YtipndbhedaknnaaDoorPrg
namespace Go.Proofs.YtipndbhedaknnaaDoor
open Go.RowKit

/-- What a reader of programs answers. -/
def PrgAnsV (w : World) (r : PrD × Int × Int) (e : Ending) (w' : World) : Prop :=
  ∃ sv cv, e = .returned (.tuple #[.agg #[.int .i64 r.1.lim, .int .i64 r.1.most, sv], .int .i64 r.2.1, .int .i64 r.2.2]) ∧ PrV w.heap.size w' sv cv r.1.states ∧ Below w.heap.size w w'
theorem prgAnsV_bad {w W : World} {r : PrD × Int × Int} {c l : Int} (hr : r = (.zero, c, l)) (hb : Below w.heap.size w W) : PrgAnsV w r (.returned (.tuple #[.agg #[.int .i64 0, .int .i64 0, .slice none 0 0], .int .i64 c, .int .i64 l])) W := by
  subst hr
  exact ⟨.slice none 0 0, fun _ => .slice none 0 0, rfl, PrV.zero _ _ _, hb⟩
theorem PrV.baseV {B B' : Nat} {W : World} {sv : Value} {cv : Nat → Value} {ss : List StD} (h : PrV B W sv cv ss) (hB : B' ≤ B) : PrV B' W sv cv ss := by
  have key : ∀ {e : TypeId} {sz n : Nat} {v : Value} {xs : List Value}, W.ownsRow B e sz v n xs → W.ownsRow B' e sz v n xs := fun {e sz n v xs} ⟨h1, h2⟩ => ⟨h1, by
    rcases h2 with h0 | ⟨g, cap, cur, hv, hg, r⟩
    · exact .inl h0
    · exact .inr ⟨g, cap, cur, hv, by omega, r⟩⟩
  exact ⟨key h.row, fun i hi => key (h.cas i hi), h.apart⟩
end Go.Proofs.YtipndbhedaknnaaDoor
