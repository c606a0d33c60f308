/- bits.Pow(-20) and levellingref01.Pow(-20). -/
import Derived.Test.YtdccjlaneobldaaDoorRefPow
namespace Go.Proofs.YtdccjlaneobldaaDoor
open Go.RowKit Go.Shelf

set_option maxHeartbeats 400000 in
theorem join_low (w : World) : Calls Tryd.prog 69 #[.bool false, .int .i64 1003, .int .u64 0] w fun e w' => e = .returned (fl 4517110426252607488) ∧ w' = w := by
  have hf := run_frombits
  go_enter Tryd.func69, Tryd.ntmps69
  go_wp2
  go_ret
  exact ⟨ret_fl (by decide), rfl⟩

set_option maxHeartbeats 1000000 in
theorem make_low (w : World) (hT : Tab w) : Calls Tryd.prog 49 #[.bool false, .int .u64 1, .int .i64 (-20)] w fun e w' => e = .returned (.tuple #[fl 4517110426252607488, .bool true]) ∧ w' = w := by
  have e1 : bits .and .u64 4503599627370496 4503599627370495 = 0 := by decide
  go_enter Tryd.func49, Tryd.ntmps49
  go_wp2_with (first | (go_at_call 70; refine (tz_one _ hT).mono ?_; rintro e w' ⟨rfl, rfl⟩) | (go_at_call 71; refine (len64_one _).mono ?_; rintro e w' ⟨rfl, rfl⟩) | (go_at_call 69; refine (join_low _).mono ?_; rintro e w' ⟨rfl, rfl⟩))
  go_ret2
  exact ⟨rfl, rfl⟩

set_option maxHeartbeats 400000 in
theorem low_c (w : World) (hT : Tab w) : Calls Tryd.prog 29 #[.int .i64 (-20)] w fun e w' => e = .returned (fl 4517110426252607488) ∧ w' = w := by
  go_enter Tryd.func29, Tryd.ntmps29
  go_wp2_with (go_at_call 49; refine (make_low _ hT).mono ?_; rintro e w' ⟨rfl, rfl⟩)
  go_ret
  exact ⟨rfl, rfl⟩

set_option maxRecDepth 100000 in
set_option maxHeartbeats 1000000 in
theorem rmake_low (w : World) : Calls Tryd.prog 50 #[.bool false, .int .u64 1, .int .i64 (-20)] w fun e w' => e = .returned (.tuple #[fl 4517110426252607488, .bool true]) ∧ w' = w := by
  have hf := run_frombits
  go_enter Tryd.func50, Tryd.ntmps50
  go_wp2_with fail
  go_loop [1, 2] (fun m e => m = .int .u64 1 ∧ e = .int .i64 (-20)) (fun _ _ => 0)
  case atStart => exact ⟨rfl, rfl⟩
  case round =>
    obtain ⟨rfl, rfl⟩ := hrel
    go_wp2_with fail
    go_loop [1, 2] (fun m e => ∃ (k M : Nat), k ≤ 52 ∧ m = .int .u64 (M : Int) ∧ Hid (M = 2 ^ k) ∧ e = .int .i64 (-20 - (k : Int))) (fun _ e => (intOf e + 72).toNat)
    case atStart => exact ⟨0, 1, by omega, rfl, rfl, rfl⟩
    case round =>
      obtain ⟨k, M, hk, rfl, HM, rfl⟩ := hrel
      by_cases hlt : k < 52
      · have h1 : M < 4503599627370496 := by rw [HM.out]; exact Nat.pow_lt_pow_right (by omega) hlt
        have h2 : (M : Int) < 4503599627370496 := by omega
        have h3 : IntKind.u64.wrap ((M : Int) * 2) = (M : Int) * 2 := by rw [IntKind.wrap_u64]; omega
        have h4 : (-1074 : Int) < -20 - (k : Int) := by omega
        clear h1
        go_wp2
        go_round
        case rel => exact ⟨k + 1, M * 2, by omega, by go_num, by show _ = _; rw [HM.out, Nat.pow_succ], by go_num⟩
        case measure => simp [intOf]; omega
      · obtain rfl : k = 52 := by omega
        obtain rfl : M = 4503599627370496 := HM.out
        go_wp2
        go_ret2
        exact ⟨rfl, rfl⟩

set_option maxHeartbeats 400000 in
theorem rlow_c (w : World) : Calls Tryd.prog 30 #[.int .i64 (-20)] w fun e w' => e = .returned (fl 4517110426252607488) ∧ w' = w := by
  go_enter Tryd.func30, Tryd.ntmps30
  go_wp2_with (go_at_call 50; refine (rmake_low _).mono ?_; rintro e w' ⟨rfl, rfl⟩)
  go_ret
  exact ⟨rfl, rfl⟩
end Go.Proofs.YtdccjlaneobldaaDoor
