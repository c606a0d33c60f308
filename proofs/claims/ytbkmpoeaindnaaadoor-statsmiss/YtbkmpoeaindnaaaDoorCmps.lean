/- math.IsInf, math.IsNaN, math.Sqrt, stats.fit. -/
import Derived.Test.YtbkmpoeaindnaaaDoorCls
namespace Go.Proofs.YtbkmpoeaindnaaaDoor
open Go.RowKit Go.Shelf Rnd Ieee

theorem gt_max {a : Nat} (h : a < 9223372036854775808) : (FloatKind.f64.format.order a 9218868437227405311 == some .gt) = decide (a = 9218868437227405312) := by
  have hi := inf_eq
  have e : FloatKind.f64.format = Ieee.double := rfl
  rw [e]
  have hm := le_word (a := a) (b := 9218868437227405311) h (by omega)
  have am : a % 2 ^ 63 = a := Nat.mod_eq_of_lt h
  have ad : a / 2 ^ 63 = 0 := Nat.div_eq_of_lt h
  rcases Nat.lt_trichotomy a 9218868437227405312 with h1 | h1 | h1
  · rw [order_pos (by omega) (by omega), decide_eq_false (by omega)]
    rcases Nat.lt_or_ge a 9218868437227405311 with h2 | h2
    · rw [Nat.compare_eq_lt.2 h2]; rfl
    · rw [Nat.compare_eq_eq.2 (by omega)]; rfl
  · rw [decide_eq_true h1]
    obtain ⟨n, j, h3, _⟩ := read_num (x := 9218868437227405311) (by omega)
    unfold Format.order
    rw [read_inf (by rw [am]; omega), h3, ad]
    rfl
  · rw [decide_eq_false (by omega)]
    unfold Format.order
    rw [read_nan (by rw [am]; omega)]
    cases Ieee.double.read 9218868437227405311 <;> rfl
theorem eq_self (x : Nat) : (FloatKind.f64.format.order x x == some .eq) = decide (x % 9223372036854775808 ≤ 9218868437227405312) := by
  have hi := inf_eq
  have e : FloatKind.f64.format = Ieee.double := rfl
  rw [e]
  rcases Nat.lt_trichotomy (x % 2 ^ 63) Ieee.double.infRung with h1 | h1 | h1
  · rw [order_sv h1 h1, decide_eq_true (by omega)]
    simp
  · rw [decide_eq_true (by omega)]
    unfold Format.order
    rw [read_inf h1]
    unfold Datum.order
    simp
  · rw [decide_eq_false (by omega)]
    unfold Format.order
    rw [read_nan h1]
    rfl

set_option maxHeartbeats 400000 in
theorem isinf_c (x : Nat) (hx : x < 18446744073709551616) (w : World) : Calls Tryd.prog 19 #[fl x, .int .i64 0] w fun e w' => e = .returned (.bool (decide (kindN x = 2))) ∧ w' = w := by
  have hg := gt_max (a := x % 9223372036854775808) (Nat.mod_lt _ (by decide))
  have HK : Hid (decide (x % 9223372036854775808 = 9218868437227405312) = decide (kindN x = 2)) := by show _ = _; simp only [kind2]
  rw [HK.out] at hg
  go_enter Tryd.func19, Tryd.ntmps19
  go_wp2_with (go_at_call 41; refine (abs_c x hx _).mono ?_; rintro e w' ⟨rfl, rfl⟩)
  go_ret
  exact ⟨rfl, rfl⟩
set_option maxHeartbeats 400000 in
theorem isnan_c (x : Nat) (w : World) : Calls Tryd.prog 39 #[fl x] w fun e w' => e = .returned (.bool (decide (kindN x = 3))) ∧ w' = w := by
  have hg := eq_self x
  have HK : Hid (decide (kindN x = 3) = !decide (x % 9223372036854775808 ≤ 9218868437227405312)) := by
    show _ = _
    by_cases h : x % 9223372036854775808 ≤ 9218868437227405312
    · rw [decide_eq_true h, decide_eq_false (by rw [kind3]; omega)]; rfl
    · rw [decide_eq_false h, decide_eq_true (by rw [kind3]; omega)]; rfl
  obtain ⟨b, HB⟩ : ∃ b, Hid (decide (x % 9223372036854775808 ≤ 9218868437227405312) = b) := ⟨_, rfl⟩
  rw [HB.out] at hg
  go_enter Tryd.func39, Tryd.ntmps39
  go_wp2
  go_ret
  exact ⟨ret_bool (by rw [HK.out, HB.out, bne, hg]), rfl⟩

theorem run_sqrt {x r : Nat} (h : Ieee.double.sqrt x = some r) (w : World) : (callFunc 62 #[fl x]).run Tryd.prog w = .ok (.value (fl r)) w := by
  rw [run_callFunc_extern (e := Extern.MathSqrt.sqrt) Tryd.func62 (by kernel_rfl) (by kernel_rfl) (by kernel_rfl) (by kernel_rfl)]
  have h' : FloatKind.f64.format.sqrt x = some r := h
  have e : Extern.MathSqrt.sqrt #[fl x] = (pure (fl r) : Sem Value) := by
    show (match FloatKind.f64.format.sqrt x with | some r => (pure (.float .f64 r) : Sem Value) | none => _) = _
    rw [h']
  rw [e]
  rfl
set_option maxHeartbeats 400000 in
theorem sqrt_c (x r : Nat) (h : Ieee.double.sqrt x = some r) (w : World) : Calls Tryd.prog 35 #[fl x] w fun e w' => e = .returned (fl r) ∧ w' = w := by
  have hs := run_sqrt h
  go_enter Tryd.func35, Tryd.ntmps35
  go_wp2
  go_ret
  exact ⟨rfl, rfl⟩

theorem eq_zero {x : Nat} (h : x ≤ 9218868437227405312) : (FloatKind.f64.format.order x 0 == some .eq) = decide (x = 0) := by
  have hi := inf_eq
  have e : FloatKind.f64.format = Ieee.double := rfl
  rw [e]
  rcases Nat.lt_or_ge x 9218868437227405312 with h1 | h1
  · rw [order_pos (by omega) (by omega)]
    rcases Nat.eq_zero_or_pos x with h2 | h2
    · subst h2; rfl
    · rw [decide_eq_false (by omega), Nat.compare_eq_gt.2 h2]; rfl
  · obtain rfl : x = 9218868437227405312 := by omega
    decide +kernel
/-- The share of total that is not left over: for a total that is not 0 by quotient and difference. -/
def fitW (rest total : Nat) : Nat := if total = 0 then 0 else ((Ieee.double.div rest total).bind fun q => Ieee.double.sub 4607182418800017408 q).getD 0
set_option maxHeartbeats 400000 in
theorem fit_zero (rest : Nat) (w : World) : Calls Tryd.prog 34 #[fl rest, fl 0] w fun e w' => e = .returned (fl 0) ∧ w' = w := by
  have hz := eq_zero (x := 0) (by decide)
  rw [decide_eq_true rfl] at hz
  go_enter Tryd.func34, Tryd.ntmps34
  go_wp2
  go_ret
  exact ⟨rfl, rfl⟩
set_option maxHeartbeats 400000 in
theorem fit_some (rest total q z : Nat) (h0 : 0 < total) (hi : total ≤ 9218868437227405312) (hq : Ieee.double.div rest total = some q) (hd : Ieee.double.sub 4607182418800017408 q = some z) (w : World) : Calls Tryd.prog 34 #[fl rest, fl total] w fun e w' => e = .returned (fl z) ∧ w' = w := by
  have hz := eq_zero hi
  rw [decide_eq_false (by omega)] at hz
  have h1 : ∀ w : World, (binOp .quo 26 (fl rest) (fl total)).run Tryd.prog w = .ok (fl q) w := fun w => run_float_arith w .quo _ _ _ _ _ hq
  have h2 : ∀ w : World, (binOp .sub 26 (fl 4607182418800017408) (fl q)).run Tryd.prog w = .ok (fl z) w := fun w => run_float_arith w .sub _ _ _ _ _ hd
  go_enter Tryd.func34, Tryd.ntmps34
  go_wp2
  go_ret
  exact ⟨rfl, rfl⟩
end Go.Proofs.YtbkmpoeaindnaaaDoor
