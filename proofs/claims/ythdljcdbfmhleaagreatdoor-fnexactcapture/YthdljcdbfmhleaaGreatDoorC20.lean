import Derived.Test.YthdljcdbfmhleaaGreatDoorC6
namespace Go.Proofs.YthdljcdbfmhleaaGreatDoor
open Go.RowKit
attribute [local go_sem] Oper.semAt_some
def PosR(w:World)(nw:Nat)(P:Nat->Prop)(e:Ending)(w':World):Prop:=
 ∃(g:Nat) (U:Nat->Nat),e=.returned (.slice (some ⟨g,0,none⟩) nw nw)/\w.heap.size<=g/\zal w' nw g U/\(∀q,zae U q=true↔P q)/\Below w.heap.size w w'
end Go.Proofs.YthdljcdbfmhleaaGreatDoor
