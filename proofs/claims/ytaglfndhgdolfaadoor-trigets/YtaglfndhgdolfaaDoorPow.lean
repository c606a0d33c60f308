/- bits.Pow(420). -/
import Derived.Test.YtaglfndhgdolfaaDoorLen64
import Derived.Test.YtaglfndhgdolfaaDoorFloats
namespace Go.Proofs.YtaglfndhgdolfaaDoor
open Go.RowKit Go.Shelf

set_option maxHeartbeats 400000 in
theorem tz_one (w : World) (hT : Tab w) : Calls Tryd.prog 44 #[.int .u64 1] w fun e w' => e = .returned (.int .i64 0) ∧ w' = w := by
  have hT' : w.cell? ⟨1, 0, none⟩ = some (.int .u8 0) := hT
  have e0 : IntKind.u64.wrap (-1) = 18446744073709551615 := by decide
  have e1 : bits .and .u64 1 18446744073709551615 = 1 := by decide
  have e2 : IntKind.u64.wrap 285870213051353865 = 285870213051353865 := by decide
  go_enter Tryd.func44, Tryd.ntmps44
  go_wp2
  go_ret
  exact ⟨rfl, rfl⟩

set_option maxHeartbeats 400000 in
theorem join_pow (w : World) : Calls Tryd.prog 43 #[.bool false, .int .i64 1443, .int .u64 0] w fun e w' => e = .returned (fl 6498694262295625728) ∧ w' = w := by
  have hf := run_frombits
  go_enter Tryd.func43, Tryd.ntmps43
  go_wp2
  go_ret
  exact ⟨ret_fl (by decide), rfl⟩

set_option maxHeartbeats 1000000 in
theorem make_pow (w : World) (hT : Tab w) : Calls Tryd.prog 42 #[.bool false, .int .u64 1, .int .i64 420] w fun e w' => e = .returned (.tuple #[fl 6498694262295625728, .bool true]) ∧ w' = w := by
  have e1 : bits .and .u64 4503599627370496 4503599627370495 = 0 := by decide
  go_enter Tryd.func42, Tryd.ntmps42
  go_wp2_with (first | (go_at_call 44; refine (tz_one _ hT).mono ?_; rintro e w' ⟨rfl, rfl⟩) | (go_at_call 45; refine (len64_one _).mono ?_; rintro e w' ⟨rfl, rfl⟩) | (go_at_call 43; refine (join_pow _).mono ?_; rintro e w' ⟨rfl, rfl⟩))
  go_ret2
  exact ⟨rfl, rfl⟩

set_option maxHeartbeats 400000 in
theorem pow_c (w : World) (hT : Tab w) : Calls Tryd.prog 39 #[.int .i64 420] w fun e w' => e = .returned (fl 6498694262295625728) ∧ w' = w := by
  go_enter Tryd.func39, Tryd.ntmps39
  go_wp2_with (go_at_call 42; refine (make_pow _ hT).mono ?_; rintro e w' ⟨rfl, rfl⟩)
  go_ret
  exact ⟨rfl, rfl⟩
end Go.Proofs.YtaglfndhgdolfaaDoor
