/- What may fade, and what is faded, over bits. -/
import Derived.Test.YtbkmpoeaindnaaaDoorFlo
import Derived.Test.YtbkmpoeaindnaaaDoorPowLow
import Derived.Test.YtbkmpoeaindnaaaDoorCheck
namespace Go.Proofs.YtbkmpoeaindnaaaDoor
open Go.RowKit Go.Shelf Rnd

/-- Whether a number may fade: 2^-20 to 1. -/
def mayB (b : Nat) : Bool := decide (4517110426252607488 ≤ b ∧ b ≤ 4607182418800017408)

theorem ge_low {b : Nat} (hb : b < 18446744073709551616) : (FloatKind.f64.format.order b 4517110426252607488 == some .gt || FloatKind.f64.format.order b 4517110426252607488 == some .eq) = decide (4517110426252607488 ≤ b ∧ b ≤ 9218868437227405312) := by
  have h := ge_word (a := b) (b := 4517110426252607488) hb (by decide) (by decide)
  rw [inf_eq] at h
  exact h
theorem le_one {b : Nat} (h : b ≤ 9218868437227405312) : (FloatKind.f64.format.order b 4607182418800017408 == some .lt || FloatKind.f64.format.order b 4607182418800017408 == some .eq) = decide (b ≤ 4607182418800017408) :=
  le_word (a := b) (b := 4607182418800017408) (by omega) (by decide)

/-- A whole list, faded. -/
def fadeL (b : Nat) (xs : List Nat) : List Nat := xs.map (fadeW b)

theorem leH_eq (x : Nat) : leH x = decide (x % 9223372036854775808 ≤ 6498694262295625728) :=
  le_word (a := x % 9223372036854775808) (b := 6498694262295625728) (Nat.mod_lt _ (by decide)) (by decide)
theorem leH_fin {x : Nat} (h : leH x = true) : x % 2 ^ 63 < Ieee.double.infRung := by
  rw [leH_eq] at h
  have := of_decide_eq_true h
  rw [inf_eq]
  omega
theorem mayB_le {b : Nat} (h : mayB b = true) : b ≤ 4607182418800017408 := (of_decide_eq_true h).2
theorem mul_fade {b x : Nat} (hx : leH x = true) (hb : mayB b = true) : floatBits .mul .f64 x b = some (fadeW b x) := fadeW_eq (leH_fin hx) (mayB_le hb)
theorem leH_fade {b x : Nat} (h64 : x < 18446744073709551616) (hx : leH x = true) (hb : mayB b = true) : leH (fadeW b x) = true := by
  have h := (fadeW_is h64 (leH_fin hx) (mayB_le hb)).2.1
  rw [leH_eq] at hx ⊢
  have := of_decide_eq_true hx
  exact decide_eq_true (by omega)
theorem sg_fade {b x : Nat} (h64 : x < 18446744073709551616) (hx : leH x = true) (hb : mayB b = true) : decide (9223372036854775808 ≤ fadeW b x) = decide (9223372036854775808 ≤ x) := by
  have h := (fadeW_is h64 (leH_fin hx) (mayB_le hb)).2.2
  exact decide_eq_decide.2 h
theorem fade_lt {b x : Nat} (h64 : x < 18446744073709551616) (hx : leH x = true) (hb : mayB b = true) : fadeW b x < 18446744073709551616 := (fadeW_is h64 (leH_fin hx) (mayB_le hb)).1
end Go.Proofs.YtbkmpoeaindnaaaDoor
