import Derived.Test.YtdimhpfiieepiaaGreatDoorC17
import Derived.Deep.Slices
import Derived.Deep.AppendLies
import Derived.Deep.RegionLaw
namespace Go.Proofs.YtdimhpfiieepiaaGreatDoor
open Go.RowKit
attribute [local go_sem ↓] wp_at_zero wp_at_succ
def Hop(n:Nat)(U:Nat->Prop)(sc:Nat->Nat->Nat)(of:Nat->Nat)(work:Nat->Prop):Prop:=
 ∀s t k,s<n->t<n->U k->of s=of t->of (sc s k)≠of (sc t k)->work (of (sc s k))\/work (of (sc t k))
section
variable {gt:Nat} {W W':World} {p:Nat} {mv:Value} {m:Nat} {mi:Nat->Nat} {v:Nat->Value} {l:Nat->List Int} {N:Nat} {o wk:List Nat} {mem:Nat->List Nat}
end
end Go.Proofs.YtdimhpfiieepiaaGreatDoor
