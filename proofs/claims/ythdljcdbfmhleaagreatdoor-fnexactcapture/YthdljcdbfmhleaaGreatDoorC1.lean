import Derived.Test.YthdljcdbfmhleaaGreatDoorC0
import Derived.Deep.DrawnRows
namespace Go.Proofs.YthdljcdbfmhleaaGreatDoor
section
open Go.RowKit
end
section
open Go.RowKit
end
section
open Go.RowKit
end
section
open Go.RowKit
theorem zqX{w:World}{g:Nat}{o:Obj}(h:w.heap[g]?=some o):g<w.heap.size:=(zrc.1 h).1
end
section
open Go.RowKit
end
section
open Go.RowKit
attribute [local go_sem ↓] Go.wp_at_zero Go.wp_at_succ
end
def runN(st:Nat->Nat->Nat)(s:Nat)(l:List Nat):Nat:=l.foldl st s
def zq4(st:Nat->Nat->Nat)(an:Nat->Int×Int)(s t:Nat):Prop:=∀l:List Nat,(∀c∈l,c<256)->an (runN st s l)=an (runN st t l)
noncomputable instance alikeDec (st:Nat->Nat->Nat) (an:Nat->Int×Int) (s t:Nat):Decidable (zq4 st an s t):=Classical.propDecidable _

open Go.RowKit
attribute [local go_sem ↓] Go.wp_at_zero Go.wp_at_succ
end Go.Proofs.YthdljcdbfmhleaaGreatDoor
