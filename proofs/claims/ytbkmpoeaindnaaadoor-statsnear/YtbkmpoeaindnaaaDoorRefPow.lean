/- levellingref01.Pow(420). -/
import Derived.Test.YtbkmpoeaindnaaaDoorPow
namespace Go.Proofs.YtbkmpoeaindnaaaDoor
open Go.RowKit Go.Shelf

set_option maxRecDepth 100000 in
set_option maxHeartbeats 1000000 in
theorem rmake_pow (w : World) : Calls Tryd.prog 65 #[.bool false, .int .u64 1, .int .i64 420] w fun e w' => e = .returned (.tuple #[fl 6498694262295625728, .bool true]) ∧ w' = w := by
  have hf := run_frombits
  go_enter Tryd.func65, Tryd.ntmps65
  go_wp2_with fail
  go_loop [1, 2] (fun m e => m = .int .u64 1 ∧ e = .int .i64 420) (fun _ _ => 0)
  case atStart => exact ⟨rfl, rfl⟩
  case round =>
    obtain ⟨rfl, rfl⟩ := hrel
    go_wp2_with fail
    go_loop [1, 2] (fun m e => ∃ (k M : Nat), k ≤ 52 ∧ m = .int .u64 (M : Int) ∧ Hid (M = 2 ^ k) ∧ e = .int .i64 (420 - (k : Int))) (fun _ e => (intOf e - 368).toNat)
    case atStart => exact ⟨0, 1, by omega, rfl, rfl, rfl⟩
    case round =>
      obtain ⟨k, M, hk, rfl, HM, rfl⟩ := hrel
      by_cases hlt : k < 52
      · have h1 : M < 4503599627370496 := by rw [HM.out]; exact Nat.pow_lt_pow_right (by omega) hlt
        have h2 : (M : Int) < 4503599627370496 := by omega
        have h3 : IntKind.u64.wrap ((M : Int) * 2) = (M : Int) * 2 := by rw [IntKind.wrap_u64]; omega
        have h4 : (-1074 : Int) < 420 - (k : Int) := by omega
        clear h1
        go_wp2
        go_round
        case rel => exact ⟨k + 1, M * 2, by omega, by go_num, by show _ = _; rw [HM.out, Nat.pow_succ], by go_num⟩
        case measure => simp [intOf]; omega
      · obtain rfl : k = 52 := by omega
        obtain rfl : M = 4503599627370496 := HM.out
        go_wp2
        go_ret2
        exact ⟨rfl, rfl⟩

set_option maxHeartbeats 400000 in
theorem rpow_c (w : World) : Calls Tryd.prog 42 #[.int .i64 420] w fun e w' => e = .returned (fl 6498694262295625728) ∧ w' = w := by
  go_enter Tryd.func42, Tryd.ntmps42
  go_wp2_with (go_at_call 65; refine (rmake_pow _).mono ?_; rintro e w' ⟨rfl, rfl⟩)
  go_ret
  exact ⟨rfl, rfl⟩
end Go.Proofs.YtbkmpoeaindnaaaDoor
