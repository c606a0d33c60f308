/- math.Abs, math.Signbit over bits. -/
import Derived.Laws.BitsAllLaws
import Derived.Test.YtdccjlaneobldaaDoorBase
namespace Go.Proofs.YtdccjlaneobldaaDoor
open Go.RowKit Go.Shelf

theorem run_bits (b : Nat) (w : World) : (callFunc 35 #[.float .f64 b]).run Tryd.prog w = .ok (.value (.int .u64 (b : Int))) w := by
  rw [run_callFunc_extern (e := Extern.MathFloatBits.float64bits) Tryd.func35 (by kernel_rfl) (by kernel_rfl) (by kernel_rfl) (by kernel_rfl)]
  rfl
theorem run_frombits (n : Int) (w : World) : (callFunc 34 #[.int .u64 n]).run Tryd.prog w = .ok (.value (.float .f64 n.toNat)) w := by
  rw [run_callFunc_extern (e := Extern.MathFloatBits.float64frombits) Tryd.func34 (by kernel_rfl) (by kernel_rfl) (by kernel_rfl) (by kernel_rfl)]
  rfl

theorem u64_abs (x : Nat) (hx : x < 18446744073709551616) : bits .andNot .u64 (x : Int) 9223372036854775808 = ((x % 9223372036854775808 : Nat) : Int) := by
  have h := u64_andNot_nat x 9223372036854775808 hx (by decide)
  have e : (18446744073709551615 - 9223372036854775808 : Nat) = 2 ^ 63 - 1 := by decide
  rw [e, Nat.and_two_pow_sub_one_eq_mod] at h
  exact h
theorem ret_fl {a b : Nat} (h : a = b) : Ending.returned (fl a) = .returned (fl b) := by rw [h]
theorem ret_bool {a b : Bool} (h : a = b) : Ending.returned (.bool a) = .returned (.bool b) := by rw [h]
theorem ret_one {k : IntKind} {a b : Int} (h : a = b) : Ending.returned (.int k a) = .returned (.int k b) := by rw [h]

set_option maxHeartbeats 400000 in
theorem abs_c (x : Nat) (hx : x < 18446744073709551616) (w : World) : Calls Tryd.prog 19 #[fl x] w fun e w' => e = .returned (fl (x % 9223372036854775808)) ∧ w' = w := by
  have hb := run_bits
  have hf := run_frombits
  go_enter Tryd.func19, Tryd.ntmps19
  go_wp2
  go_ret
  exact ⟨ret_fl (by rw [u64_abs x hx]; rfl), rfl⟩

set_option maxHeartbeats 400000 in
theorem signbit_c (x : Nat) (hx : x < 18446744073709551616) (w : World) : Calls Tryd.prog 20 #[fl x] w fun e w' => e = .returned (.bool (decide (9223372036854775808 ≤ x))) ∧ w' = w := by
  have hb := run_bits
  go_enter Tryd.func20, Tryd.ntmps20
  go_wp2
  go_ret
  exact ⟨ret_bool (by unfold wrap64; congr 1; simp only [eq_iff_iff]; omega), rfl⟩
end Go.Proofs.YtdccjlaneobldaaDoor
