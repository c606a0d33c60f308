/- math.Abs, math.Signbit over bits. -/
import Derived.Laws.BitsAllLaws
import Derived.Test.YtbkmpoeaindnaaaDoorBase
namespace Go.Proofs.YtbkmpoeaindnaaaDoor
open Go.RowKit Go.Shelf

theorem run_bits (b : Nat) (w : World) : (callFunc 37 #[.float .f64 b]).run Tryd.prog w = .ok (.value (.int .u64 (b : Int))) w := by
  rw [run_callFunc_extern (e := Extern.MathFloatBits.float64bits) Tryd.func37 (by kernel_rfl) (by kernel_rfl) (by kernel_rfl) (by kernel_rfl)]
  rfl
theorem run_frombits (n : Int) (w : World) : (callFunc 64 #[.int .u64 n]).run Tryd.prog w = .ok (.value (.float .f64 n.toNat)) w := by
  rw [run_callFunc_extern (e := Extern.MathFloatBits.float64frombits) Tryd.func64 (by kernel_rfl) (by kernel_rfl) (by kernel_rfl) (by kernel_rfl)]
  rfl

theorem u64_abs (x : Nat) (hx : x < 18446744073709551616) : bits .andNot .u64 (x : Int) 9223372036854775808 = ((x % 9223372036854775808 : Nat) : Int) := by
  have h := u64_andNot_nat x 9223372036854775808 hx (by decide)
  have e : (18446744073709551615 - 9223372036854775808 : Nat) = 2 ^ 63 - 1 := by decide
  rw [e, Nat.and_two_pow_sub_one_eq_mod] at h
  exact h
theorem ret_fl {a b : Nat} (h : a = b) : Ending.returned (fl a) = .returned (fl b) := by rw [h]
theorem ret_bool {a b : Bool} (h : a = b) : Ending.returned (.bool a) = .returned (.bool b) := by rw [h]
theorem ret_one {k : IntKind} {a b : Int} (h : a = b) : Ending.returned (.int k a) = .returned (.int k b) := by rw [h]

set_option maxHeartbeats 400000 in
theorem abs_c (x : Nat) (hx : x < 18446744073709551616) (w : World) : Calls Tryd.prog 41 #[fl x] w fun e w' => e = .returned (fl (x % 9223372036854775808)) ∧ w' = w := by
  have hb := run_bits
  have hf := run_frombits
  go_enter Tryd.func41, Tryd.ntmps41
  go_wp2
  go_ret
  exact ⟨ret_fl (by rw [u64_abs x hx]; rfl), rfl⟩

set_option maxHeartbeats 400000 in
theorem signbit_c (x : Nat) (hx : x < 18446744073709551616) (w : World) : Calls Tryd.prog 77 #[fl x] w fun e w' => e = .returned (.bool (decide (9223372036854775808 ≤ x))) ∧ w' = w := by
  have hb := run_bits
  go_enter Tryd.func77, Tryd.ntmps77
  go_wp2
  go_ret
  exact ⟨ret_bool (by unfold wrap64; congr 1; simp only [eq_iff_iff]; omega), rfl⟩
end Go.Proofs.YtbkmpoeaindnaaaDoor
