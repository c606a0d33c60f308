/- Floats by their class: what is no number is one thing, whatever its bits are; how float operations run, also where the bits of what is no number are drawn. -/
import Derived.Laws.FloatArith
import Derived.Laws.NewFold
import Derived.Below
import Derived.Test.YtbkmpoeaindnaaaDoorFlo
import Derived.Test.YtbkmpoeaindnaaaDoorRefSplit
namespace Go.Proofs.YtbkmpoeaindnaaaDoor
open Go.RowKit Go.Shelf Rnd Ieee

/-- A float's class: its bits, or none, if it is no number. -/
def cls (x : Nat) : Option Nat := if 9218868437227405312 < x % 9223372036854775808 then none else some x

theorem cls_some {x z : Nat} (h : cls x = some z) : x = z := by
  unfold cls at h
  split at h
  · cases h
  · exact Option.some.inj h
theorem cls_num {x : Nat} (h : x % 9223372036854775808 ≤ 9218868437227405312) : cls x = some x := by
  unfold cls
  rw [if_neg (by omega)]
theorem cls_nan {x : Nat} (h : 9218868437227405312 < x % 9223372036854775808) : cls x = none := if_pos h
theorem cls_le {x z : Nat} (h : cls x = some z) : z % 9223372036854775808 ≤ 9218868437227405312 := by
  have := cls_some h
  subst this
  unfold cls at h
  split at h
  · cases h
  · omega

theorem kind3 (x : Nat) : kindN x = 3 ↔ 9218868437227405312 < x % 9223372036854775808 := by
  unfold kindN
  by_cases h1 : x / 4503599627370496 % 2048 = 2047
  · rw [if_pos h1]
    by_cases h2 : x % 4503599627370496 = 0
    · rw [if_pos h2]; omega
    · rw [if_neg h2]; omega
  · rw [if_neg h1]
    split <;> omega
theorem kind2 (x : Nat) : kindN x = 2 ↔ x % 9223372036854775808 = 9218868437227405312 := by
  unfold kindN
  by_cases h1 : x / 4503599627370496 % 2048 = 2047
  · rw [if_pos h1]
    by_cases h2 : x % 4503599627370496 = 0
    · rw [if_pos h2]; omega
    · rw [if_neg h2]; omega
  · rw [if_neg h1]
    split <;> omega
theorem kind1 (x : Nat) : kindN x ≤ 1 ↔ x % 9223372036854775808 < 9218868437227405312 := by
  unfold kindN
  by_cases h1 : x / 4503599627370496 % 2048 = 2047
  · rw [if_pos h1]
    by_cases h2 : x % 4503599627370496 = 0
    · rw [if_pos h2]; omega
    · rw [if_neg h2]; omega
  · rw [if_neg h1]
    split <;> omega

theorem write_ok {d : Datum} (h : d.isNaN = false) : Ieee.double.write d < 2 ^ 64 ∧ Ieee.double.write d % 2 ^ 63 ≤ 9218868437227405312 := by
  have hi := inf_eq
  cases d with
  | number s m p =>
    show Ieee.double.nearest s m p < _ ∧ Ieee.double.nearest s m p % _ ≤ _
    rw [nearest_eq]
    obtain ⟨w1, w2, _⟩ := word_sign (neg := s) (r := min (rungOf s m p) Ieee.double.infRung) (by omega)
    exact ⟨w1, by omega⟩
  | infinity s =>
    show Ieee.double.word s _ < _ ∧ Ieee.double.word s _ % _ ≤ _
    obtain ⟨w1, w2, _⟩ := word_sign (neg := s) (r := Ieee.double.infRung) (by omega)
    exact ⟨w1, by omega⟩
  | nan s f => cases h

theorem sum_ok {a b d : Datum} (h : a.sum b = some d) : d.isNaN = false := by
  cases a <;> cases b <;> simp only [Datum.sum] at h <;> (try split at h) <;> first | cases h | skip
  all_goals rfl
theorem product_ok {a b d : Datum} (h : a.product b = some d) : d.isNaN = false := by
  cases a <;> cases b <;> simp only [Datum.product] at h <;> (try split at h) <;> first | cases h | skip
  all_goals rfl
theorem quotient_ok {n : Nat} {a b d : Datum} (h : a.quotient n b = some d) : d.isNaN = false := by
  cases a <;> cases b <;> simp only [Datum.quotient] at h <;> (repeat split at h) <;> first | cases h | skip
  all_goals rfl

theorem opp_nan {d : Datum} (h : d.isNaN = true) : d.opposite.isNaN = true := by cases d <;> first | rfl | cases h
theorem sum_nan {a b : Datum} (h : a.isNaN = true ∨ b.isNaN = true) : a.sum b = none := by
  cases a <;> cases b <;> first | rfl | (rcases h with h | h <;> cases h)
theorem product_nan {a b : Datum} (h : a.isNaN = true ∨ b.isNaN = true) : a.product b = none := by
  cases a <;> cases b <;> first | rfl | (rcases h with h | h <;> cases h)
theorem quotient_nan {n : Nat} {a b : Datum} (h : a.isNaN = true ∨ b.isNaN = true) : a.quotient n b = none := by
  cases a <;> cases b <;> first | rfl | (rcases h with h | h <;> cases h)
theorem read_isNaN {x : Nat} (h : 9218868437227405312 < x % 9223372036854775808) : (Ieee.double.read x).isNaN = true := by
  rw [read_nan (by have := inf_eq; omega)]
  rfl

/-- What is reckoned is a word, and no NaN. -/
theorem fb_ok {op : BinOp} {x y z : Nat} (h : floatBits op .f64 x y = some z) : z < 18446744073709551616 ∧ z % 9223372036854775808 ≤ 9218868437227405312 := by
  unfold floatBits at h
  split at h
  · obtain ⟨d, h1, rfl⟩ := Option.map_eq_some_iff.1 (show ((Ieee.double.read x).sum (Ieee.double.read y)).map Ieee.double.write = some z from h)
    exact write_ok (sum_ok h1)
  · obtain ⟨d, h1, rfl⟩ := Option.map_eq_some_iff.1 (show ((Ieee.double.read x).sum (Ieee.double.read y).opposite).map Ieee.double.write = some z from h)
    exact write_ok (sum_ok h1)
  · obtain ⟨d, h1, rfl⟩ := Option.map_eq_some_iff.1 (show ((Ieee.double.read x).product (Ieee.double.read y)).map Ieee.double.write = some z from h)
    exact write_ok (product_ok h1)
  · obtain ⟨d, h1, rfl⟩ := Option.map_eq_some_iff.1 (show ((Ieee.double.read x).quotient _ (Ieee.double.read y)).map Ieee.double.write = some z from h)
    exact write_ok (quotient_ok h1)
  · cases h
theorem fb_nan {op : BinOp} {x y : Nat} (h : 9218868437227405312 < x % 9223372036854775808 ∨ 9218868437227405312 < y % 9223372036854775808) : floatBits op .f64 x y = none := by
  have h' : (Ieee.double.read x).isNaN = true ∨ (Ieee.double.read y).isNaN = true := h.imp read_isNaN read_isNaN
  unfold floatBits
  split
  · show ((Ieee.double.read x).sum (Ieee.double.read y)).map Ieee.double.write = none
    rw [sum_nan h']; rfl
  · show ((Ieee.double.read x).sum (Ieee.double.read y).opposite).map Ieee.double.write = none
    rw [sum_nan (h'.imp id opp_nan)]; rfl
  · show ((Ieee.double.read x).product (Ieee.double.read y)).map Ieee.double.write = none
    rw [product_nan h']; rfl
  · show ((Ieee.double.read x).quotient _ (Ieee.double.read y)).map Ieee.double.write = none
    rw [quotient_nan h']; rfl
  · rfl

/-- An operation on classes. -/
def opC (op : BinOp) (a b : Option Nat) : Option Nat := a.bind fun x => b.bind fun y => floatBits op .f64 x y

/-- What an operation gives in a world, and the world behind it: where the answer is no number, its bits are drawn. -/
def opZ (op : BinOp) (x y : Nat) (w : World) : Nat := (floatBits op .f64 x y).getD ((Question.nanBits .f64 x y).cut (w.tape w.drawn (.nanBits .f64 x y)))
def opW (op : BinOp) (x y : Nat) (w : World) : World := if (floatBits op .f64 x y).isSome then w else w.drew

theorem run_op {op : BinOp} (hop : op = .add ∨ op = .sub ∨ op = .mul ∨ op = .quo) (P : Program) (t : TypeId) (x y : Nat) (w : World) : (binOp op t (fl x) (fl y)).run P w = .ok (fl (opZ op x y w)) (opW op x y w) := by
  cases h : floatBits op .f64 x y with
  | some r =>
    rw [run_float_arith w op t .f64 x y r h]
    unfold opZ opW
    rw [h]
    rfl
  | none =>
    unfold opZ opW
    rw [h]
    unfold floatBits at h
    rcases hop with rfl | rfl | rfl | rfl <;> simp only at h <;> simp [binOp, Op.floatArith, h, Question.forced]

@[simp] theorem heap_opW (op : BinOp) (x y : Nat) (w : World) : (opW op x y w).heap = w.heap := by unfold opW; split <;> rfl
@[simp] theorem cell_opW (op : BinOp) (x y : Nat) (w : World) (a : Addr) : (opW op x y w).cell? a = w.cell? a := by unfold opW; split <;> rfl
@[simp] theorem frozen_opW (op : BinOp) (x y : Nat) (w : World) (a : Addr) : (opW op x y w).frozen? a = w.frozen? a := by unfold opW; split <;> rfl
attribute [go_sem] heap_opW cell_opW frozen_opW
theorem below_opW {B : Nat} {a w : World} (h : Below B a w) (op : BinOp) (x y : Nat) : Below B a (opW op x y w) := by
  unfold opW
  split
  · exact h
  · exact h.drew

theorem nan_drawn (x y t : Nat) : (Question.nanBits .f64 x y).cut t < 18446744073709551616 ∧ 9218868437227405312 < (Question.nanBits .f64 x y).cut t % 9223372036854775808 := by
  have e : (Question.nanBits .f64 x y).cut t = (t % 2) * 9223372036854775808 + 9218868437227405312 + 1 + (t / 2) % 4503599627370495 := rfl
  rw [e]
  have h1 : t % 2 < 2 := Nat.mod_lt _ (by decide)
  have h2 : t / 2 % 4503599627370495 < 4503599627370495 := Nat.mod_lt _ (by decide)
  generalize t / 2 % 4503599627370495 = c at h2 ⊢
  generalize t % 2 = b at h1 ⊢
  obtain rfl | rfl : b = 0 ∨ b = 1 := by omega
  · omega
  · omega
theorem opZ_lt (op : BinOp) (x y : Nat) (w : World) : opZ op x y w < 18446744073709551616 := by
  unfold opZ
  cases h : floatBits op .f64 x y with
  | some r => exact (fb_ok h).1
  | none => exact (nan_drawn x y _).1
theorem cls_opZ (op : BinOp) (x y : Nat) (w : World) : cls (opZ op x y w) = opC op (cls x) (cls y) := by
  cases h : floatBits op .f64 x y with
  | some r =>
    have hx : x % 9223372036854775808 ≤ 9218868437227405312 := by
      rcases Nat.lt_or_ge 9218868437227405312 (x % 9223372036854775808) with h' | h'
      · rw [fb_nan (.inl h')] at h; cases h
      · exact h'
    have hy : y % 9223372036854775808 ≤ 9218868437227405312 := by
      rcases Nat.lt_or_ge 9218868437227405312 (y % 9223372036854775808) with h' | h'
      · rw [fb_nan (.inr h')] at h; cases h
      · exact h'
    rw [cls_num hx, cls_num hy]
    unfold opZ opC
    rw [h]
    simp only [Option.getD_some, Option.bind_some]
    rw [h, cls_num (fb_ok h).2]
  | none =>
    have e : opC op (cls x) (cls y) = none := by
      unfold opC cls
      split
      · rfl
      · split
        · rfl
        · simpa using h
    rw [e]
    unfold opZ
    rw [h]
    exact cls_nan (nan_drawn x y _).2
/-- Where the answer is a number, nothing is drawn. -/
theorem opZ_some {op : BinOp} {x y z : Nat} (h : floatBits op .f64 x y = some z) (w : World) : opZ op x y w = z ∧ opW op x y w = w := by
  unfold opZ opW
  rw [h]
  exact ⟨rfl, rfl⟩
end Go.Proofs.YtbkmpoeaindnaaaDoor
