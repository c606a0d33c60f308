/- What levellingref07.Check asks of an entry is what tri.Check does. -/
import Derived.Test.YtdccjlaneobldaaDoorCheck
import Derived.Test.YtdccjlaneobldaaDoorRefSplit
namespace Go.Proofs.YtdccjlaneobldaaDoor
open Go.RowKit Go.Shelf

/-- Whether the size is above 2^420. -/
def gtH (x : Nat) : Bool := FloatKind.f64.format.order (x % 9223372036854775808) 6498694262295625728 == some .gt

theorem read_hi : FloatKind.f64.format.read 6498694262295625728 = .number false 4503599627370496 368 := by decide +kernel
theorem fmt_sign : FloatKind.f64.format.signWeight = 9223372036854775808 := by decide +kernel
theorem fmt_binade : FloatKind.f64.format.binade = 4503599627370496 := by decide +kernel
theorem fmt_inf : FloatKind.f64.format.infRung = 9218868437227405312 := by decide +kernel

theorem kind_field (x : Nat) : x / 4503599627370496 % 2048 = x % 9223372036854775808 / 4503599627370496 := by omega
theorem kind_mant (x : Nat) : x % 4503599627370496 = x % 9223372036854775808 % 4503599627370496 := by omega

theorem leH_ref (x : Nat) : leH x = (decide (kindN x ≤ 1) && !gtH x) := by
  unfold leH gtH Ieee.Format.order
  rw [read_hi]
  obtain ⟨a, ha⟩ : ∃ a, x % 9223372036854775808 = a := ⟨_, rfl⟩
  have ha2 : a < 9223372036854775808 := by rw [← ha]; exact Nat.mod_lt _ (by decide)
  have hk : kindN x = if a / 4503599627370496 = 2047 then (if a % 4503599627370496 = 0 then 2 else 3) else if a / 4503599627370496 = 0 ∧ a % 4503599627370496 = 0 then 0 else 1 := by
    unfold kindN; rw [kind_field, kind_mant, ha]
  rw [ha, hk]
  unfold Ieee.Format.read
  simp only [fmt_sign, fmt_binade, fmt_inf]
  have h0 : a / 9223372036854775808 % 2 = 0 := by omega
  have h1 : a % 9223372036854775808 = a := Nat.mod_eq_of_lt ha2
  rw [h0, h1]
  have num : ∀ (b : Bool) (m : Nat) (p : Int), ((Ieee.Datum.number b m p).order (.number false 4503599627370496 368) == some Ordering.lt || (Ieee.Datum.number b m p).order (.number false 4503599627370496 368) == some Ordering.eq) = !((Ieee.Datum.number b m p).order (.number false 4503599627370496 368) == some Ordering.gt) := by
    intro b m p
    unfold Ieee.Datum.order
    dsimp only
    generalize (compare (Ieee.signed b m (p - min p 368).toNat) (Ieee.signed false 4503599627370496 ((368 : Int) - min p 368).toNat) : Ordering) = o
    cases o <;> rfl
  by_cases c1 : a < 4503599627370496
  · rw [if_pos c1, num]
    have : ¬ a / 4503599627370496 = 2047 := by omega
    rw [if_neg this]
    split <;> simp
  · rw [if_neg c1]
    by_cases c2 : a < 9218868437227405312
    · rw [if_pos c2, num]
      have : ¬ a / 4503599627370496 = 2047 := by omega
      rw [if_neg this]
      split <;> simp
    · rw [if_neg c2]
      have h2 : a / 4503599627370496 = 2047 := by omega
      rw [if_pos h2]
      by_cases c3 : a = 9218868437227405312
      · rw [if_pos c3]
        have : a % 4503599627370496 = 0 := by omega
        rw [if_pos this]
        rfl
      · rw [if_neg c3]
        have : ¬ a % 4503599627370496 = 0 := by omega
        rw [if_neg this]
        rfl
end Go.Proofs.YtdccjlaneobldaaDoor
