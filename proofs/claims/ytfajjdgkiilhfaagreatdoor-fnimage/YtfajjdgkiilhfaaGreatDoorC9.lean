import Derived.Test.YtfajjdgkiilhfaaGreatDoorC8
import Derived.Deep.RegionHeld3
import Derived.Deep.DrawnRows
namespace Go.Proofs.YtfajjdgkiilhfaaGreatDoor
open Go.RowKit
attribute [local go_sem ↓] wp_at_zero wp_at_succ
theorem zkL{mn mx:Int}(h:lz mn mx=true):1<=oO mn mx/\oO mn mx<=256:=by
 simp[lz]at h;unfold oO;split
 ·omega
 ·split<;>omega
end Go.Proofs.YtfajjdgkiilhfaaGreatDoor
