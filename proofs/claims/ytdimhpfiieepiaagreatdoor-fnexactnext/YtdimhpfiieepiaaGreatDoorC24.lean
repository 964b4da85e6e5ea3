import Derived.Test.YtdimhpfiieepiaaGreatDoorC23
import Derived.Deep.Slices
namespace Go.Proofs.YtdimhpfiieepiaaGreatDoor
open Go.RowKit
section
attribute [local go_sem ↓] wp_at_zero wp_at_succ
end
section
attribute [local go_sem ↓] wp_at_zero wp_at_succ
end
end Go.Proofs.YtdimhpfiieepiaaGreatDoor
