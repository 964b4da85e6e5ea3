import Derived.Test.YtdimhpfiieepiaaGreatDoorC14
namespace Go.Proofs.YtdimhpfiieepiaaGreatDoor
open Go.RowKit
attribute [local go_sem] Oper.semAt_some
def zyy(w:World)(nw:Nat)(P:Nat->Prop)(e:Ending)(w':World):Prop:=
 ∃(g:Nat) (U:Nat->Nat),e=.returned (.slice (some ⟨g,0,none⟩) nw nw)/\w.heap.size<=g/\aH w' nw g U/\(∀q,au U q=true↔P q)/\Below w.heap.size w w'
end Go.Proofs.YtdimhpfiieepiaaGreatDoor
