import Derived.Test.YtfajjdgkiilhfaaC10
import Derived.Deep.RegionHeld3
import Derived.Deep.DrawnRows
namespace Go.Proofs.Ytfajjdgkiilhfaa
open Go.RowKit
attribute [local go_sem ↓] wp_at_zero wp_at_succ
theorem zjS{mn mx:Int}(h:ly mn mx=true):1<=oM mn mx/\oM mn mx<=256:=by
 simp[ly]at h;unfold oM;split
 ·omega
 ·split<;>omega
end Go.Proofs.Ytfajjdgkiilhfaa
