import Derived.Test.YtdimhpfiieepiaaGreatDoorC23
namespace Go.Proofs.YtdimhpfiieepiaaGreatDoor
open Go.RowKit
section
attribute [local go_sem ↓] Go.wp_at_zero Go.wp_at_succ
end
section
attribute [local go_sem ↓] Go.wp_at_zero Go.wp_at_succ
end
section
attribute [local go_sem ↓] Go.wp_at_zero Go.wp_at_succ
end
end Go.Proofs.YtdimhpfiieepiaaGreatDoor
