/- Floats by their class: what is no number is one thing, whatever its bits are; how float operations run, also where the bits of what is no number are drawn. -/
import Derived.Laws.FloatArith
import Derived.Laws.NewFold
import Derived.Below
import Derived.Test.YtbkmpoeaindnaaaDoorFlo
import Derived.Test.YtbkmpoeaindnaaaDoorRefSplit
namespace Go.Proofs.YtbkmpoeaindnaaaDoor
open Go.RowKit Go.Shelf Rnd Ieee

/-- A float's class: its bits, or none, if it is no number. -/
def cls (x : Nat) : Option Nat := if 9218868437227405312 < x % 9223372036854775808 then none else some x

theorem cls_some {x z : Nat} (h : cls x = some z) : x = z := by
  unfold cls at h
  split at h
  · cases h
  · exact Option.some.inj h
theorem cls_num {x : Nat} (h : x % 9223372036854775808 ≤ 9218868437227405312) : cls x = some x := by
  unfold cls
  rw [if_neg (by omega)]
theorem cls_nan {x : Nat} (h : 9218868437227405312 < x % 9223372036854775808) : cls x = none := if_pos h
theorem cls_le {x z : Nat} (h : cls x = some z) : z % 9223372036854775808 ≤ 9218868437227405312 := by
  have := cls_some h
  subst this
  unfold cls at h
  split at h
  · cases h
  · omega

theorem kind3 (x : Nat) : kindN x = 3 ↔ 9218868437227405312 < x % 9223372036854775808 := by
  unfold kindN
  by_cases h1 : x / 4503599627370496 % 2048 = 2047
  · rw [if_pos h1]
    by_cases h2 : x % 4503599627370496 = 0
    · rw [if_pos h2]; omega
    · rw [if_neg h2]; omega
  · rw [if_neg h1]
    split <;> omega
theorem kind2 (x : Nat) : kindN x = 2 ↔ x % 9223372036854775808 = 9218868437227405312 := by
  unfold kindN
  by_cases h1 : x / 4503599627370496 % 2048 = 2047
  · rw [if_pos h1]
    by_cases h2 : x % 4503599627370496 = 0
    · rw [if_pos h2]; omega
    · rw [if_neg h2]; omega
  · rw [if_neg h1]
    split <;> omega
theorem kind1 (x : Nat) : kindN x ≤ 1 ↔ x % 9223372036854775808 < 9218868437227405312 := by
  unfold kindN
  by_cases h1 : x / 4503599627370496 % 2048 = 2047
  · rw [if_pos h1]
    by_cases h2 : x % 4503599627370496 = 0
    · rw [if_pos h2]; omega
    · rw [if_neg h2]; omega
  · rw [if_neg h1]
    split <;> omega

theorem write_ok {d : Datum} (h : d.isNaN = false) : Ieee.double.write d < 2 ^ 64 ∧ Ieee.double.write d % 2 ^ 63 ≤ 9218868437227405312 := by
  have hi := inf_eq
  cases d with
  | number s m p =>
    show Ieee.double.nearest s m p < _ ∧ Ieee.double.nearest s m p % _ ≤ _
    rw [nearest_eq]
    obtain ⟨w1, w2, _⟩ := word_sign (neg := s) (r := min (rungOf s m p) Ieee.double.infRung) (by omega)
    exact ⟨w1, by omega⟩
  | infinity s =>
    show Ieee.double.word s _ < _ ∧ Ieee.double.word s _ % _ ≤ _
    obtain ⟨w1, w2, _⟩ := word_sign (neg := s) (r := Ieee.double.infRung) (by omega)
    exact ⟨w1, by omega⟩
  | nan s f => cases h

theorem sum_ok {a b d : Datum} (h : a.sum b = some d) : d.isNaN = false := by
  cases a <;> cases b <;> simp only [Datum.sum] at h <;> (try split at h) <;> first | cases h | skip
  all_goals rfl
theorem product_ok {a b d : Datum} (h : a.product b = some d) : d.isNaN = false := by
  cases a <;> cases b <;> simp only [Datum.product] at h <;> (try split at h) <;> first | cases h | skip
  all_goals rfl
theorem quotient_ok {n : Nat} {a b d : Datum} (h : a.quotient n b = some d) : d.isNaN = false := by
  cases a <;> cases b <;> simp only [Datum.quotient] at h <;> (repeat split at h) <;> first | cases h | skip
  all_goals rfl

theorem opp_nan {d : Datum} (h : d.isNaN = true) : d.opposite.isNaN = true := by cases d <;> first | rfl | cases h
theorem sum_nan {a b : Datum} (h : a.isNaN = true ∨ b.isNaN = true) : a.sum b = none := by
  cases a <;> cases b <;> first | rfl | (rcases h with h | h <;> cases h)
theorem product_nan {a b : Datum} (h : a.isNaN = true ∨ b.isNaN = true) : a.product b = none := by
  cases a <;> cases b <;> first | rfl | (rcases h with h | h <;> cases h)
theorem quotient_nan {n : Nat} {a b : Datum} (h : a.isNaN = true ∨ b.isNaN = true) : a.quotient n b = none := by
  cases a <;> cases b <;> first | rfl | (rcases h with h | h <;> cases h)
theorem read_isNaN {x : Nat} (h : 9218868437227405312 < x % 9223372036854775808) : (Ieee.double.read x).isNaN = true := by
  rw [read_nan (by have := inf_eq; omega)]
  rfl

/-- What is reckoned is a word, and no NaN. -/
theorem fb_ok {op : BinOp} {x y z : Nat} (h : floatBits op .f64 x y = some z) : z < 18446744073709551616 ∧ z % 9223372036854775808 ≤ 9218868437227405312 := by
  unfold floatBits at h
  split at h
  · obtain ⟨d, h1, rfl⟩ := Option.map_eq_some_iff.1 (show ((Ieee.double.read x).sum (Ieee.double.read y)).map Ieee.double.write = some z from h)
    exact write_ok (sum_ok h1)
  · obtain ⟨d, h1, rfl⟩ := Option.map_eq_some_iff.1 (show ((Ieee.double.read x).sum (Ieee.double.read y).opposite).map Ieee.double.write = some z from h)
    exact write_ok (sum_ok h1)
  · obtain ⟨d, h1, rfl⟩ := Option.map_eq_some_iff.1 (show ((Ieee.double.read x).product (Ieee.double.read y)).map Ieee.double.write = some z from h)
    exact write_ok (product_ok h1)
  · obtain ⟨d, h1, rfl⟩ := Option.map_eq_some_iff.1 (show ((Ieee.double.read x).quotient _ (Ieee.double.read y)).map Ieee.double.write = some z from h)
    exact write_ok (quotient_ok h1)
  · cases h
theorem fb_nan {op : BinOp} {x y : Nat} (h : 9218868437227405312 < x % 9223372036854775808 ∨ 9218868437227405312 < y % 9223372036854775808) : floatBits op .f64 x y = none := by
  have h' : (Ieee.double.read x).isNaN = true ∨ (Ieee.double.read y).isNaN = true := h.imp read_isNaN read_isNaN
  unfold floatBits
  split
  · show ((Ieee.double.read x).sum (Ieee.double.read y)).map Ieee.double.write = none
    rw [sum_nan h']; rfl
  · show ((Ieee.double.read x).sum (Ieee.double.read y).opposite).map Ieee.double.write = none
    rw [sum_nan (h'.imp id opp_nan)]; rfl
  · show ((Ieee.double.read x).product (Ieee.double.read y)).map Ieee.double.write = none
    rw [product_nan h']; rfl
  · show ((Ieee.double.read x).quotient _ (Ieee.double.read y)).map Ieee.double.write = none
    rw [quotient_nan h']; rfl
  · rfl

/-- An operation on classes. -/
def opC (op : BinOp) (a b : Option Nat) : Option Nat := a.bind fun x => b.bind fun y => floatBits op .f64 x y

/-- What an operation gives in a world, and the world behind it: where the answer is no number, its bits are drawn. -/
def opZ (op : BinOp) (x y : Nat) (w : World) : Nat := (floatBits op .f64 x y).getD ((Question.nanBits .f64 x y).cut (w.tape w.drawn (.nanBits .f64 x y)))
def opW (op : BinOp) (x y : Nat) (w : World) : World := if (floatBits op .f64 x y).isSome then w else w.drew

theorem run_op {op : BinOp} (hop : op = .add ∨ op = .sub ∨ op = .mul ∨ op = .quo) (P : Program) (t : TypeId) (x y : Nat) (w : World) : (binOp op t (fl x) (fl y)).run P w = .ok (fl (opZ op x y w)) (opW op x y w) := by
  cases h : floatBits op .f64 x y with
  | some r =>
    rw [run_float_arith w op t .f64 x y r h]
    unfold opZ opW
    rw [h]
    rfl
  | none =>
    unfold opZ opW
    rw [h]
    unfold floatBits at h
    rcases hop with rfl | rfl | rfl | rfl <;> simp only at h <;> simp [binOp, Op.floatArith, h, Question.forced]

@[simp] theorem heap_opW (op : BinOp) (x y : Nat) (w : World) : (opW op x y w).heap = w.heap := by unfold opW; split <;> rfl
@[simp] theorem cell_opW (op : BinOp) (x y : Nat) (w : World) (a : Addr) : (opW op x y w).cell? a = w.cell? a := by unfold opW; split <;> rfl
@[simp] theorem frozen_opW (op : BinOp) (x y : Nat) (w : World) (a : Addr) : (opW op x y w).frozen? a = w.frozen? a := by unfold opW; split <;> rfl
attribute [go_sem] heap_opW cell_opW frozen_opW
theorem below_opW {B : Nat} {a w : World} (h : Below B a w) (op : BinOp) (x y : Nat) : Below B a (opW op x y w) := by
  unfold opW
  split
  · exact h
  · exact h.drew

theorem nan_drawn (x y t : Nat) : (Question.nanBits .f64 x y).cut t < 18446744073709551616 ∧ 9218868437227405312 < (Question.nanBits .f64 x y).cut t % 9223372036854775808 := by
  have e : (Question.nanBits .f64 x y).cut t = (t % 2) * 9223372036854775808 + 9218868437227405312 + 1 + (t / 2) % 4503599627370495 := rfl
  rw [e]
  have h1 : t % 2 < 2 := Nat.mod_lt _ (by decide)
  have h2 : t / 2 % 4503599627370495 < 4503599627370495 := Nat.mod_lt _ (by decide)
  generalize t / 2 % 4503599627370495 = c at h2 ⊢
  generalize t % 2 = b at h1 ⊢
  obtain rfl | rfl : b = 0 ∨ b = 1 := by omega
  · omega
  · omega
theorem opZ_lt (op : BinOp) (x y : Nat) (w : World) : opZ op x y w < 18446744073709551616 := by
  unfold opZ
  cases h : floatBits op .f64 x y with
  | some r => exact (fb_ok h).1
  | none => exact (nan_drawn x y _).1
theorem cls_opZ (op : BinOp) (x y : Nat) (w : World) : cls (opZ op x y w) = opC op (cls x) (cls y) := by
  cases h : floatBits op .f64 x y with
  | some r =>
    have hx : x % 9223372036854775808 ≤ 9218868437227405312 := by
      rcases Nat.lt_or_ge 9218868437227405312 (x % 9223372036854775808) with h' | h'
      · rw [fb_nan (.inl h')] at h; cases h
      · exact h'
    have hy : y % 9223372036854775808 ≤ 9218868437227405312 := by
      rcases Nat.lt_or_ge 9218868437227405312 (y % 9223372036854775808) with h' | h'
      · rw [fb_nan (.inr h')] at h; cases h
      · exact h'
    rw [cls_num hx, cls_num hy]
    unfold opZ opC
    rw [h]
    simp only [Option.getD_some, Option.bind_some]
    rw [h, cls_num (fb_ok h).2]
  | none =>
    have e : opC op (cls x) (cls y) = none := by
      unfold opC cls
      split
      · rfl
      · split
        · rfl
        · simpa using h
    rw [e]
    unfold opZ
    rw [h]
    exact cls_nan (nan_drawn x y _).2
/-- Where the answer is a number, nothing is drawn. -/
theorem opZ_some {op : BinOp} {x y z : Nat} (h : floatBits op .f64 x y = some z) (w : World) : opZ op x y w = z ∧ opW op x y w = w := by
  unfold opZ opW
  rw [h]
  exact ⟨rfl, rfl⟩
end Go.Proofs.YtbkmpoeaindnaaaDoor

/- math.IsInf, math.IsNaN, math.Sqrt, stats.fit. -/
namespace Go.Proofs.YtbkmpoeaindnaaaDoor
open Go.RowKit Go.Shelf Rnd Ieee

theorem gt_max {a : Nat} (h : a < 9223372036854775808) : (FloatKind.f64.format.order a 9218868437227405311 == some .gt) = decide (a = 9218868437227405312) := by
  have hi := inf_eq
  have e : FloatKind.f64.format = Ieee.double := rfl
  rw [e]
  have hm := le_word (a := a) (b := 9218868437227405311) h (by omega)
  have am : a % 2 ^ 63 = a := Nat.mod_eq_of_lt h
  have ad : a / 2 ^ 63 = 0 := Nat.div_eq_of_lt h
  rcases Nat.lt_trichotomy a 9218868437227405312 with h1 | h1 | h1
  · rw [order_pos (by omega) (by omega), decide_eq_false (by omega)]
    rcases Nat.lt_or_ge a 9218868437227405311 with h2 | h2
    · rw [Nat.compare_eq_lt.2 h2]; rfl
    · rw [Nat.compare_eq_eq.2 (by omega)]; rfl
  · rw [decide_eq_true h1]
    obtain ⟨n, j, h3, _⟩ := read_num (x := 9218868437227405311) (by omega)
    unfold Format.order
    rw [read_inf (by rw [am]; omega), h3, ad]
    rfl
  · rw [decide_eq_false (by omega)]
    unfold Format.order
    rw [read_nan (by rw [am]; omega)]
    cases Ieee.double.read 9218868437227405311 <;> rfl
theorem eq_self (x : Nat) : (FloatKind.f64.format.order x x == some .eq) = decide (x % 9223372036854775808 ≤ 9218868437227405312) := by
  have hi := inf_eq
  have e : FloatKind.f64.format = Ieee.double := rfl
  rw [e]
  rcases Nat.lt_trichotomy (x % 2 ^ 63) Ieee.double.infRung with h1 | h1 | h1
  · rw [order_sv h1 h1, decide_eq_true (by omega)]
    simp
  · rw [decide_eq_true (by omega)]
    unfold Format.order
    rw [read_inf h1]
    unfold Datum.order
    simp
  · rw [decide_eq_false (by omega)]
    unfold Format.order
    rw [read_nan h1]
    rfl

set_option maxHeartbeats 400000 in
theorem isinf_c (x : Nat) (hx : x < 18446744073709551616) (w : World) : Calls Tryd.prog 19 #[fl x, .int .i64 0] w fun e w' => e = .returned (.bool (decide (kindN x = 2))) ∧ w' = w := by
  have hg := gt_max (a := x % 9223372036854775808) (Nat.mod_lt _ (by decide))
  have HK : Hid (decide (x % 9223372036854775808 = 9218868437227405312) = decide (kindN x = 2)) := by show _ = _; simp only [kind2]
  rw [HK.out] at hg
  go_enter Tryd.func19, Tryd.ntmps19
  go_wp2_with (go_at_call 41; refine (abs_c x hx _).mono ?_; rintro e w' ⟨rfl, rfl⟩)
  go_ret
  exact ⟨rfl, rfl⟩
set_option maxHeartbeats 400000 in
theorem isnan_c (x : Nat) (w : World) : Calls Tryd.prog 39 #[fl x] w fun e w' => e = .returned (.bool (decide (kindN x = 3))) ∧ w' = w := by
  have hg := eq_self x
  have HK : Hid (decide (kindN x = 3) = !decide (x % 9223372036854775808 ≤ 9218868437227405312)) := by
    show _ = _
    by_cases h : x % 9223372036854775808 ≤ 9218868437227405312
    · rw [decide_eq_true h, decide_eq_false (by rw [kind3]; omega)]; rfl
    · rw [decide_eq_false h, decide_eq_true (by rw [kind3]; omega)]; rfl
  obtain ⟨b, HB⟩ : ∃ b, Hid (decide (x % 9223372036854775808 ≤ 9218868437227405312) = b) := ⟨_, rfl⟩
  rw [HB.out] at hg
  go_enter Tryd.func39, Tryd.ntmps39
  go_wp2
  go_ret
  exact ⟨ret_bool (by rw [HK.out, HB.out, bne, hg]), rfl⟩

theorem run_sqrt {x r : Nat} (h : Ieee.double.sqrt x = some r) (w : World) : (callFunc 62 #[fl x]).run Tryd.prog w = .ok (.value (fl r)) w := by
  rw [run_callFunc_extern (e := Extern.MathSqrt.sqrt) Tryd.func62 (by kernel_rfl) (by kernel_rfl) (by kernel_rfl) (by kernel_rfl)]
  have h' : FloatKind.f64.format.sqrt x = some r := h
  have e : Extern.MathSqrt.sqrt #[fl x] = (pure (fl r) : Sem Value) := by
    show (match FloatKind.f64.format.sqrt x with | some r => (pure (.float .f64 r) : Sem Value) | none => _) = _
    rw [h']
  rw [e]
  rfl
set_option maxHeartbeats 400000 in
theorem sqrt_c (x r : Nat) (h : Ieee.double.sqrt x = some r) (w : World) : Calls Tryd.prog 35 #[fl x] w fun e w' => e = .returned (fl r) ∧ w' = w := by
  have hs := run_sqrt h
  go_enter Tryd.func35, Tryd.ntmps35
  go_wp2
  go_ret
  exact ⟨rfl, rfl⟩

theorem eq_zero {x : Nat} (h : x ≤ 9218868437227405312) : (FloatKind.f64.format.order x 0 == some .eq) = decide (x = 0) := by
  have hi := inf_eq
  have e : FloatKind.f64.format = Ieee.double := rfl
  rw [e]
  rcases Nat.lt_or_ge x 9218868437227405312 with h1 | h1
  · rw [order_pos (by omega) (by omega)]
    rcases Nat.eq_zero_or_pos x with h2 | h2
    · subst h2; rfl
    · rw [decide_eq_false (by omega), Nat.compare_eq_gt.2 h2]; rfl
  · obtain rfl : x = 9218868437227405312 := by omega
    decide +kernel
/-- The share of total that is not left over: for a total that is not 0 by quotient and difference. -/
def fitW (rest total : Nat) : Nat := if total = 0 then 0 else ((Ieee.double.div rest total).bind fun q => Ieee.double.sub 4607182418800017408 q).getD 0
set_option maxHeartbeats 400000 in
theorem fit_zero (rest : Nat) (w : World) : Calls Tryd.prog 34 #[fl rest, fl 0] w fun e w' => e = .returned (fl 0) ∧ w' = w := by
  have hz := eq_zero (x := 0) (by decide)
  rw [decide_eq_true rfl] at hz
  go_enter Tryd.func34, Tryd.ntmps34
  go_wp2
  go_ret
  exact ⟨rfl, rfl⟩
set_option maxHeartbeats 400000 in
theorem fit_some (rest total q z : Nat) (h0 : 0 < total) (hi : total ≤ 9218868437227405312) (hq : Ieee.double.div rest total = some q) (hd : Ieee.double.sub 4607182418800017408 q = some z) (w : World) : Calls Tryd.prog 34 #[fl rest, fl total] w fun e w' => e = .returned (fl z) ∧ w' = w := by
  have hz := eq_zero hi
  rw [decide_eq_false (by omega)] at hz
  have h1 : ∀ w : World, (binOp .quo 26 (fl rest) (fl total)).run Tryd.prog w = .ok (fl q) w := fun w => run_float_arith w .quo _ _ _ _ _ hq
  have h2 : ∀ w : World, (binOp .sub 26 (fl 4607182418800017408) (fl q)).run Tryd.prog w = .ok (fl z) w := fun w => run_float_arith w .sub _ _ _ _ _ hd
  go_enter Tryd.func34, Tryd.ntmps34
  go_wp2
  go_ret
  exact ⟨rfl, rfl⟩
end Go.Proofs.YtbkmpoeaindnaaaDoor
