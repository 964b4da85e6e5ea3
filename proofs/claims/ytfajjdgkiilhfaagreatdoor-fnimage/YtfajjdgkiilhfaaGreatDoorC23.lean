import Derived.Test.YtfajjdgkiilhfaaGreatDoorC22
import Derived.Deep.WholeRow
import Derived.Laws.Tables
import Derived.Deep.LoopGhost
import Derived.Laws.CopyOwn
namespace Go.Proofs.YtfajjdgkiilhfaaGreatDoor
open Go.RowKit
section
attribute [local go_sem] Oper.semAt_some
end
section
attribute [local go_sem] Oper.semAt_some
end
section
attribute [local go_sem ↓] wp_at_zero wp_at_succ
def v3(gO gW gS n:Nat):Nat->Value:=λi=>if i=0 then .slice (some ⟨gO,0,none⟩) n n else if i=1 then .slice (some ⟨gW,0,none⟩) 1 1 else .slice (some ⟨gS,0,none⟩) n n
def l3(n:Nat):Nat->List Int:=λi=>if i=0 then dy (List.replicate n 0) else if i=1 then dy [0] else dy (List.range n)
section
variable {w:World} {gt p m gmv cm:Nat} {mi:Nat->Nat} {v:Nat->Value} {l:Nat->List Int} {N:Nat} {o wk:List Nat} {mem:Nat->List Nat} {B gI n:Nat} {vA:Nat->Value} {A:Nat->List (Nat×Nat)} {gT:Nat} {T:Nat->Nat->Nat} {W W':World}
end
section
variable {w:World} {gt p m gmv cm:Nat} {mi:Nat->Nat} {v4 v:Nat->Value} {l4 l:Nat->List Int} {N:Nat} {o wk:List Nat} {mem:Nat->List Nat} {B gI n:Nat} {vA:Nat->Value} {A:Nat->List (Nat×Nat)} {gT:Nat} {ps:List (Nat×Nat)} {xs:List Nat} {T:Nat->Nat->Nat} {gTo cTo:Nat} {W W':World}
end
section
def zAY(ats:Array TypeId)(ty:TypeId)(args:Array Value):Sem Value:=Builtin.copy_ ats ty args
theorem zpZ(ty:TypeId)(args:Array Value):Builtin.copy_ #[23,23] ty args=zAY #[23,23] ty args:=rfl
attribute [local go_sem ↓] zpZ
end
end
end Go.Proofs.YtfajjdgkiilhfaaGreatDoor
