import Derived.Test.YtdimhpfiieepiaaGreatDoorC16
namespace Go.Proofs.YtdimhpfiieepiaaGreatDoor
open Go.RowKit
attribute [local go_sem ↓] wp_at_zero wp_at_succ
def runN(st:Nat->Nat->Nat)(s:Nat)(l:List Nat):Nat:=l.foldl st s
def zuh(st:Nat->Nat->Nat)(an:Nat->Int×Int)(s t:Nat):Prop:=∀l:List Nat,(∀c∈l,c<256)->an (runN st s l)=an (runN st t l)
noncomputable instance zAU (st:Nat->Nat->Nat) (an:Nat->Int×Int) (s t:Nat):Decidable (zuh st an s t):=Classical.propDecidable _

end Go.Proofs.YtdimhpfiieepiaaGreatDoor
