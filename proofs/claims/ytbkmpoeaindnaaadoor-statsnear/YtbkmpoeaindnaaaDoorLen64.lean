/- math/bits.Len64 at 1. (Over the plain walk.) -/
import Derived.Test.YtbkmpoeaindnaaaDoorProg
import Derived.Lib.Strings
import Derived.Lib.Slices
import Derived.Lib.Small
import Derived.Lib.Walk
import Derived.Lib.BitFns
namespace Go.Proofs.YtbkmpoeaindnaaaDoor

set_option maxHeartbeats 1000000 in
set_option maxRecDepth 100000 in
theorem len64_one (w : World) : Calls Tryd.prog 85 #[.int .u64 1] w fun e w' => e = .returned (.int .i64 1) ∧ w' = w := by
  go_enter Tryd.func85, Tryd.ntmps85
  go_wp2
  go_ret
  refine ⟨congrArg (fun z => Ending.returned (Value.int IntKind.i64 z)) ?_, rfl⟩
  rw [Lib.len8_int 1 (by omega) (by omega)]
  decide
end Go.Proofs.YtbkmpoeaindnaaaDoor
