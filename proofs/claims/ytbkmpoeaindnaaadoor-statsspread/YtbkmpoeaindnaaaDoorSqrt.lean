/- What a root of a float comes to: its square is near to the number. -/
import Derived.Test.YtbkmpoeaindnaaaDoorSMath
namespace Go.Proofs.YtbkmpoeaindnaaaDoor.Rnd
open Ieee

/-- The whole root, digit by digit. -/
theorem root_from (n : Nat) : ∀ todo root, root * root ≤ n → n < (root + 2 ^ todo) * (root + 2 ^ todo) → Datum.rootFrom n todo root * Datum.rootFrom n todo root ≤ n ∧ n < (Datum.rootFrom n todo root + 1) * (Datum.rootFrom n todo root + 1)
  | 0, root, h1, h2 => by
    simp only [Datum.rootFrom]
    rw [Nat.pow_zero] at h2
    exact ⟨h1, h2⟩
  | todo + 1, root, h1, h2 => by
    simp only [Datum.rootFrom, Nat.shiftLeft_eq, Nat.one_mul]
    have e : root + 2 ^ (todo + 1) = root + 2 ^ todo + 2 ^ todo := by rw [Nat.pow_succ]; omega
    rw [e] at h2
    by_cases h : (root + 2 ^ todo) * (root + 2 ^ todo) ≤ n
    · rw [if_pos h]
      exact root_from n todo _ h h2
    · rw [if_neg h]
      exact root_from n todo _ h1 (by omega)
theorem root_whole {n : Nat} : Datum.rootFrom n (n.log2 / 2 + 1) 0 * Datum.rootFrom n (n.log2 / 2 + 1) 0 ≤ n ∧ n < (Datum.rootFrom n (n.log2 / 2 + 1) 0 + 1) * (Datum.rootFrom n (n.log2 / 2 + 1) 0 + 1) := by
  refine root_from n _ 0 (Nat.zero_le _) ?_
  rw [Nat.zero_add, ← Nat.pow_add]
  have h1 : n < 2 ^ (n.log2 + 1) := Nat.lt_log2_self
  have h2 : 2 ^ (n.log2 + 1) ≤ 2 ^ (n.log2 / 2 + 1 + (n.log2 / 2 + 1)) := Nat.pow_le_pow_right (by decide) (by omega)
  omega

/-- The last digit of a root: q is twice the whole root, and one more where it is not exact. -/
theorem root_digit {n w s q : Nat} (h1 : w * w ≤ n) (h2 : n < (w + 1) * (w + 1)) (hw : 2 ^ 54 ≤ w) (hq : q = 2 * w + s) (hs : (s = 0 ∧ w * w = n) ∨ s = 1) :
    2 ^ 54 * (q * q) ≤ (2 ^ 56 + 5) * n ∧ (2 ^ 56 - 4) * n ≤ 2 ^ 54 * (q * q) := by
  have h3 : 2 ^ 54 * w ≤ w * w := Nat.mul_le_mul_right _ hw
  have h4 : (w + 1) * (w + 1) = w * w + 2 * w + 1 := by grind
  rcases hs with ⟨rfl, he⟩ | rfl
  · have e : q * q = 4 * n := by rw [hq, ← he]; grind
    rw [e]
    omega
  · have e : q * q = 4 * (w * w) + 4 * w + 1 := by rw [hq]; grind
    rw [e]
    generalize w * w = W at *
    omega
theorem root_bounds {X q n U : Nat} (h1 : 2 ^ 53 * X ≤ 2 ^ 53 * (q * U) + q * U) (h2 : 2 ^ 53 * (q * U) ≤ 2 ^ 53 * X + q * U) (k1 : 2 ^ 54 * (q * q) ≤ (2 ^ 56 + 5) * n) (k2 : (2 ^ 56 - 4) * n ≤ 2 ^ 54 * (q * q)) :
    2 ^ 53 * (X * X) ≤ 2 ^ 53 * (n * (2 * U * (2 * U))) + 3 * (n * (2 * U * (2 * U))) ∧ 2 ^ 53 * (n * (2 * U * (2 * U))) ≤ 2 ^ 53 * (X * X) + 3 * (n * (2 * U * (2 * U))) := by
  have e0 : n * (2 * U * (2 * U)) = 4 * (n * (U * U)) := by grind
  have e1 : q * U * (q * U) = q * q * (U * U) := by grind
  have a1 : 2 ^ 54 * (q * q * (U * U)) ≤ (2 ^ 56 + 5) * (n * (U * U)) := by
    have := Nat.mul_le_mul_right (U * U) k1
    rw [Nat.mul_assoc (2 ^ 54), Nat.mul_assoc (2 ^ 56 + 5)] at this
    exact this
  have a2 : (2 ^ 56 - 4) * (n * (U * U)) ≤ 2 ^ 54 * (q * q * (U * U)) := by
    have := Nat.mul_le_mul_right (U * U) k2
    rw [Nat.mul_assoc (2 ^ 54), Nat.mul_assoc (2 ^ 56 - 4)] at this
    exact this
  have b1 : 2 ^ 53 * X ≤ (2 ^ 53 + 1) * (q * U) := by omega
  have b2 : (2 ^ 53 - 1) * (q * U) ≤ 2 ^ 53 * X := by omega
  have c1 := Nat.mul_le_mul b1 b1
  have c2 := Nat.mul_le_mul b2 b2
  have d1 : 2 ^ 53 * X * (2 ^ 53 * X) = 2 ^ 53 * 2 ^ 53 * (X * X) := by rw [Nat.mul_mul_mul_comm]
  have d2 : (2 ^ 53 + 1) * (q * U) * ((2 ^ 53 + 1) * (q * U)) = (2 ^ 53 + 1) * (2 ^ 53 + 1) * (q * q * (U * U)) := by rw [Nat.mul_mul_mul_comm, e1]
  have d3 : (2 ^ 53 - 1) * (q * U) * ((2 ^ 53 - 1) * (q * U)) = (2 ^ 53 - 1) * (2 ^ 53 - 1) * (q * q * (U * U)) := by rw [Nat.mul_mul_mul_comm, e1]
  rw [d1, d2] at c1
  rw [d1, d3] at c2
  rw [e0]
  generalize X * X = C at *
  generalize q * q * (U * U) = Bq at *
  generalize n * (U * U) = A at *
  omega

theorem uv_dbl (e : Nat) : uv ((e + 1 + 1) * 2 ^ 52) = 2 * uv ((e + 1) * 2 ^ 52) := by
  rw [uv_pow (e + 1), uv_pow e, ← Nat.add_assoc, Nat.pow_succ, Nat.mul_comm]
/-- The root of a finite word without a sign: its square, in units of 2^-2148, is near to the number. -/
theorem sqrt_near {x : Nat} (hx : x < Ieee.double.infRung) : ∃ p, Ieee.double.sqrt x = some p ∧ p < Ieee.double.infRung ∧
    2 ^ 53 * (uv p * uv p) ≤ 2 ^ 53 * (uv x * 2 ^ 1074) + 3 * (uv x * 2 ^ 1074) ∧ 2 ^ 53 * (uv x * 2 ^ 1074) ≤ 2 ^ 53 * (uv p * uv p) + 3 * (uv x * 2 ^ 1074) := by
  have hi := inf_eq
  obtain ⟨m, a, h1, h2⟩ := read_num (x := x) (by omega)
  rw [Nat.mod_eq_of_lt (by omega)] at h2
  rw [Nat.div_eq_of_lt (by omega)] at h1
  unfold Format.sqrt
  rw [h1]
  by_cases hm : m = 0
  · have h0 : uv x = 0 := by rw [← h2, hm, Nat.zero_mul]
    refine ⟨0, ?_, by omega, ?_⟩
    · unfold Datum.root
      rw [hm]
      simp only [if_true]
      show some (Ieee.double.nearest _ _ _) = _
      rw [nearest_eq]
      simp [rungOf]
      rfl
    · rw [h0, uv_zero]
      generalize (2 : Nat) ^ 1074 = K
      omega
  · unfold Datum.root
    dsimp only
    rw [if_neg hm, if_neg (by decide)]
    have e54 : 2 * (Ieee.double.fractionBits + 2) = 108 := rfl
    rw [e54]
    obtain ⟨mo, hmo, hmo0, hmo1, hpar⟩ : ∃ mo : Nat, (108 - m.log2 + ((-1074 + (a : Int) - ((108 - m.log2 : Nat) : Int)) % 2).toNat) = mo ∧ 108 ≤ mo + m.log2 ∧ mo ≤ 109 ∧ (-1074 + (a : Int) - (mo : Int)) % 2 = 0 := ⟨_, rfl, by omega, by omega, by omega⟩
    rw [hmo]
    clear hmo
    rw [Nat.shiftLeft_eq]
    generalize hn : m * 2 ^ mo = n
    obtain ⟨w1, w2⟩ := root_whole (n := n)
    generalize Datum.rootFrom n (n.log2 / 2 + 1) 0 = w at w1 w2 ⊢
    generalize hp : (-1074 + (a : Int) - (mo : Int)) / 2 - 1 = pl
    have hnl : 2 ^ 108 ≤ n := by
      rw [← hn]
      have b1 : 2 ^ m.log2 ≤ m := Nat.log2_self_le hm
      have b2 : 2 ^ m.log2 * 2 ^ mo ≤ m * 2 ^ mo := Nat.mul_le_mul_right _ b1
      rw [← Nat.pow_add] at b2
      have b3 : 2 ^ 108 ≤ 2 ^ (m.log2 + mo) := Nat.pow_le_pow_right (by decide) (by omega)
      omega
    have hw : 2 ^ 54 ≤ w := by
      rcases Nat.lt_or_ge w (2 ^ 54) with h | h
      · exfalso
        have : (w + 1) * (w + 1) ≤ 2 ^ 54 * 2 ^ 54 := Nat.mul_le_mul h h
        have e : (2 : Nat) ^ 54 * 2 ^ 54 = 2 ^ 108 := by decide
        omega
      · exact h
    obtain ⟨s, hs, hs1⟩ : ∃ s, (w * w != n).toNat = s ∧ ((s = 0 ∧ w * w = n) ∨ s = 1) := by
      by_cases h : w * w = n
      · exact ⟨0, by simp [h], .inl ⟨rfl, h⟩⟩
      · exact ⟨1, by simp [h], .inr rfl⟩
    rw [hs]
    obtain ⟨k1, k2⟩ := root_digit w1 w2 hw rfl hs1
    obtain ⟨L, k, _, hu, _, h4, _, _, h5, h6⟩ := kept_near false (mag := 2 * w + s) pl (by omega)
    have hdn : downOf pl = 0 := by unfold downOf; omega
    have hup : upOf pl = (pl + 1074).toNat := rfl
    have hul : 481 ≤ upOf pl := by omega
    rw [hdn, Nat.add_zero, ← hu] at h5 h6
    rw [hdn, Nat.add_zero] at h4
    have hbig : 2 ^ 52 ≤ (2 * w + s) * 2 ^ upOf pl := Nat.le_trans (by omega) (Nat.le_mul_of_pos_right (2 * w + s) (pow_pos' (upOf pl)))
    have hL : 2 ^ 52 * 2 ^ L ≤ (2 * w + s) * 2 ^ upOf pl := by
      rcases h4 with h4 | ⟨_, h4⟩
      · subst h4
        rw [Nat.pow_zero, Nat.mul_one]
        exact hbig
      · exact h4
    generalize hr : rungOf false (2 * w + s) pl = r at h5 h6 hu
    have eN : uv x * 2 ^ 1074 = n * (2 * 2 ^ upOf pl * (2 * 2 ^ upOf pl)) := by
      have ex : a + 1074 = mo + (1 + upOf pl + (1 + upOf pl)) := by omega
      rw [← h2, ← hn, Nat.mul_assoc, ← pow_add' a 1074, ex, Nat.pow_add 2 mo, Nat.pow_add 2 (1 + upOf pl), Nat.pow_add 2 1, Nat.pow_one, Nat.mul_assoc m]
    obtain ⟨g1, g2⟩ := root_bounds (X := uv r) (q := 2 * w + s) (n := n) (U := 2 ^ upOf pl) (by
      generalize (2 * w + s) * 2 ^ upOf pl = Z at *
      generalize 2 ^ L = G at *
      omega) (by
      generalize (2 * w + s) * 2 ^ upOf pl = Z at *
      generalize 2 ^ L = G at *
      omega) k1 k2
    rw [← eN] at g1 g2
    have hfin : r < Ieee.double.infRung := by
      rcases Nat.lt_or_ge r Ieee.double.infRung with h | h
      · exact h
      · exfalso
        have u1 := uv_le h
        have u2 := uv_le (Nat.le_of_lt hx)
        have one := uv_one
        have u3 : uv 4607182418800017408 ≤ uv Ieee.double.infRung := uv_le (by omega)
        have u4 : 0 < uv 4607182418800017408 := by have := uv_mono (a := 0) (b := 4607182418800017408) (by decide); rw [uv_zero] at this; exact this
        have u5 : 2 * uv 4607182418800017408 ≤ uv Ieee.double.infRung := by
          have q1 : uv 4611686018427387904 = 2 * uv 4607182418800017408 := by
            have a1 := uv_dbl 1022
            have b1 : (1022 + 1 + 1) * 2 ^ 52 = 4611686018427387904 := by decide
            have b2 : (1022 + 1) * 2 ^ 52 = 4607182418800017408 := by decide
            rw [b1, b2] at a1
            exact a1
          rw [← q1]
          exact uv_le (by omega)
        rw [← one] at g1
        have v1 : uv Ieee.double.infRung * uv Ieee.double.infRung ≤ uv r * uv r := Nat.mul_le_mul u1 u1
        have v2 : uv x * uv 4607182418800017408 ≤ uv Ieee.double.infRung * uv 4607182418800017408 := Nat.mul_le_mul_right _ u2
        have v3 : uv Ieee.double.infRung * (2 * uv 4607182418800017408) ≤ uv Ieee.double.infRung * uv Ieee.double.infRung := Nat.mul_le_mul_left _ u5
        have v4 : uv Ieee.double.infRung * (2 * uv 4607182418800017408) = 2 * (uv Ieee.double.infRung * uv 4607182418800017408) := by rw [Nat.mul_left_comm]
        have v5 : 0 < uv Ieee.double.infRung * uv 4607182418800017408 := Nat.mul_pos (by omega) u4
        generalize uv Ieee.double.infRung * uv 4607182418800017408 = P at *
        generalize uv Ieee.double.infRung * uv Ieee.double.infRung = P2 at *
        generalize uv r * uv r = P3 at *
        generalize uv x * uv 4607182418800017408 = P4 at *
        omega
    refine ⟨r, ?_, hfin, g1, g2⟩
    show some (Ieee.double.nearest _ _ _) = _
    rw [nearest_eq, hr, Nat.min_eq_left (by omega)]
    rfl
end Go.Proofs.YtbkmpoeaindnaaaDoor.Rnd
