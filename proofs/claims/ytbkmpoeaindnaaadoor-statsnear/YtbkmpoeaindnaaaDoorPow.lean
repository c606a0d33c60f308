/- bits.Pow(420). -/
import Derived.Test.YtbkmpoeaindnaaaDoorLen64
import Derived.Test.YtbkmpoeaindnaaaDoorFloats
namespace Go.Proofs.YtbkmpoeaindnaaaDoor
open Go.RowKit Go.Shelf

set_option maxHeartbeats 400000 in
theorem tz_one (w : World) (hT : Tab w) : Calls Tryd.prog 84 #[.int .u64 1] w fun e w' => e = .returned (.int .i64 0) ∧ w' = w := by
  have hT' : w.cell? ⟨1, 0, none⟩ = some (.int .u8 0) := hT
  have e0 : IntKind.u64.wrap (-1) = 18446744073709551615 := by decide
  have e1 : bits .and .u64 1 18446744073709551615 = 1 := by decide
  have e2 : IntKind.u64.wrap 285870213051353865 = 285870213051353865 := by decide
  go_enter Tryd.func84, Tryd.ntmps84
  go_wp2
  go_ret
  exact ⟨rfl, rfl⟩

set_option maxHeartbeats 400000 in
theorem join_pow (w : World) : Calls Tryd.prog 83 #[.bool false, .int .i64 1443, .int .u64 0] w fun e w' => e = .returned (fl 6498694262295625728) ∧ w' = w := by
  have hf := run_frombits
  go_enter Tryd.func83, Tryd.ntmps83
  go_wp2
  go_ret
  exact ⟨ret_fl (by decide), rfl⟩

set_option maxHeartbeats 1000000 in
theorem make_pow (w : World) (hT : Tab w) : Calls Tryd.prog 80 #[.bool false, .int .u64 1, .int .i64 420] w fun e w' => e = .returned (.tuple #[fl 6498694262295625728, .bool true]) ∧ w' = w := by
  have e1 : bits .and .u64 4503599627370496 4503599627370495 = 0 := by decide
  go_enter Tryd.func80, Tryd.ntmps80
  go_wp2_with (first | (go_at_call 84; refine (tz_one _ hT).mono ?_; rintro e w' ⟨rfl, rfl⟩) | (go_at_call 85; refine (len64_one _).mono ?_; rintro e w' ⟨rfl, rfl⟩) | (go_at_call 83; refine (join_pow _).mono ?_; rintro e w' ⟨rfl, rfl⟩))
  go_ret2
  exact ⟨rfl, rfl⟩

set_option maxHeartbeats 400000 in
theorem pow_c (w : World) (hT : Tab w) : Calls Tryd.prog 75 #[.int .i64 420] w fun e w' => e = .returned (fl 6498694262295625728) ∧ w' = w := by
  go_enter Tryd.func75, Tryd.ntmps75
  go_wp2_with (go_at_call 80; refine (make_pow _ hT).mono ?_; rintro e w' ⟨rfl, rfl⟩)
  go_ret
  exact ⟨rfl, rfl⟩
end Go.Proofs.YtbkmpoeaindnaaaDoor
