import Derived.Test.YtipndbhedaknnaaDoorGen
namespace Go.Proofs.YtipndbhedaknnaaDoor
open Go.RowKit

def btw (c lo hi : Int) : Bool := decide (lo ≤ c ∧ c ≤ hi)

set_option maxHeartbeats 400000 in
theorem between_ok (c lo hi : Int) (w : World) : Calls Tryd.prog 33 #[.int .i64 c, .int .i64 lo, .int .i64 hi] w fun e w' => e = .returned (.bool (btw c lo hi)) ∧ w' = w := by
  by_cases h1 : lo ≤ c
  · by_cases h2 : c ≤ hi
    all_goals
      go_enter Tryd.func33, Tryd.ntmps33
      go_wp2
      go_ret
      exact ⟨ret_bool (by simp [btw]; omega), rfl⟩
  · go_enter Tryd.func33, Tryd.ntmps33
    go_wp2
    go_ret
    exact ⟨ret_bool (by simp [btw]; omega), rfl⟩

end Go.Proofs.YtipndbhedaknnaaDoor
