/- How words of 64 bits stand to each other, and what is faded: a size is its rung; a float times one that is 0 to 1 has the same sign, and no greater size. -/
import Derived.Test.YtdccjlaneobldaaDoorRound
namespace Go.Proofs.YtdccjlaneobldaaDoor.Rnd
open Ieee

theorem inf_eq : Ieee.double.infRung = 9218868437227405312 := by decide
theorem sign_eq : Ieee.double.signWeight = 2 ^ 63 := by decide

/-- A finite word's number, in units. -/
def sv (x : Nat) : Int := if x / 2 ^ 63 % 2 = 1 then -(uv (x % 2 ^ 63) : Int) else (uv (x % 2 ^ 63) : Int)

theorem cmp_mul (a b : Int) {k : Nat} : compare (a * (2 ^ k : Nat)) (b * (2 ^ k : Nat)) = compare a b := by
  have hk : (0 : Int) < (2 ^ k : Nat) := by exact_mod_cast pow_pos' k
  generalize ((2 ^ k : Nat) : Int) = c at hk ⊢
  rcases Int.lt_trichotomy a b with h | h | h
  · have h2 := Int.mul_lt_mul_of_pos_right h hk
    rw [Int.compare_eq_lt.2 h, Int.compare_eq_lt.2 h2]
  · subst h
    simp
  · have h2 := Int.mul_lt_mul_of_pos_right h hk
    rw [Int.compare_eq_gt.2 h, Int.compare_eq_gt.2 h2]

theorem signed_eq (s : Bool) (m k : Nat) : signed s m k = (if s then -((m * 2 ^ k : Nat) : Int) else ((m * 2 ^ k : Nat) : Int)) := by
  unfold signed
  rw [Nat.shiftLeft_eq]

/-- How two finite words stand to each other: as their units do. -/
theorem order_sv {x y : Nat} (hx : x % 2 ^ 63 < Ieee.double.infRung) (hy : y % 2 ^ 63 < Ieee.double.infRung) : Ieee.double.order x y = some (compare (sv x) (sv y)) := by
  obtain ⟨m, a, h1, h2⟩ := read_num hx
  obtain ⟨n, b, h3, h4⟩ := read_num hy
  unfold Format.order
  rw [h1, h3]
  unfold Datum.order
  dsimp only
  congr 1
  generalize hc : min (-1074 + (a : Int)) (-1074 + (b : Int)) = base
  obtain ⟨c, hc1, hc2, hc3⟩ : ∃ c : Nat, base = -1074 + (c : Int) ∧ c ≤ a ∧ c ≤ b := ⟨min a b, by omega, by omega, by omega⟩
  have e1 : (-1074 + (a : Int) - base).toNat = a - c := by omega
  have e2 : (-1074 + (b : Int) - base).toNat = b - c := by omega
  rw [e1, e2, signed_eq, signed_eq, ← cmp_mul _ _ (k := c)]
  have f1 : m * 2 ^ (a - c) * 2 ^ c = m * 2 ^ a := by rw [Nat.mul_assoc, ← Nat.pow_add, Nat.sub_add_cancel hc2]
  have f2 : n * 2 ^ (b - c) * 2 ^ c = n * 2 ^ b := by rw [Nat.mul_assoc, ← Nat.pow_add, Nat.sub_add_cancel hc3]
  have g1 : (if (x / 2 ^ 63 % 2 == 1) = true then -((m * 2 ^ (a - c) : Nat) : Int) else ((m * 2 ^ (a - c) : Nat) : Int)) * (2 ^ c : Nat) = sv x := by
    unfold sv
    rw [← h2, ← f1]
    by_cases h : x / 2 ^ 63 % 2 = 1
    · rw [if_pos (by simpa using h), if_pos h]
      rw [Int.neg_mul, ← Int.natCast_mul]
    · rw [if_neg (by simpa using h), if_neg h, ← Int.natCast_mul]
  have g2 : (if (y / 2 ^ 63 % 2 == 1) = true then -((n * 2 ^ (b - c) : Nat) : Int) else ((n * 2 ^ (b - c) : Nat) : Int)) * (2 ^ c : Nat) = sv y := by
    unfold sv
    rw [← h4, ← f2]
    by_cases h : y / 2 ^ 63 % 2 = 1
    · rw [if_pos (by simpa using h), if_pos h]
      rw [Int.neg_mul, ← Int.natCast_mul]
    · rw [if_neg (by simpa using h), if_neg h, ← Int.natCast_mul]
  rw [g1, g2]

theorem cmp_uv (a b : Nat) : compare ((uv a : Nat) : Int) ((uv b : Nat) : Int) = compare a b := by
  rcases Nat.lt_trichotomy a b with h | h | h
  · rw [Nat.compare_eq_lt.2 h, Int.compare_eq_lt.2 (by exact_mod_cast uv_mono h)]
  · subst h
    simp
  · rw [Nat.compare_eq_gt.2 h, Int.compare_eq_gt.2 (by exact_mod_cast uv_mono h)]

/-- Two finite words without a sign stand as they are. -/
theorem order_pos {x y : Nat} (hx : x < Ieee.double.infRung) (hy : y < Ieee.double.infRung) : Ieee.double.order x y = some (compare x y) := by
  have x1 : x % 2 ^ 63 = x := Nat.mod_eq_of_lt (by have := inf_eq; omega)
  have y1 : y % 2 ^ 63 = y := Nat.mod_eq_of_lt (by have := inf_eq; omega)
  have x2 : x / 2 ^ 63 = 0 := Nat.div_eq_of_lt (by have := inf_eq; omega)
  have y2 : y / 2 ^ 63 = 0 := Nat.div_eq_of_lt (by have := inf_eq; omega)
  rw [order_sv (by omega) (by omega)]
  unfold sv
  rw [x1, y1, x2, y2, if_neg (by decide), if_neg (by decide), cmp_uv]
/-- A word whose rung is infinity's, or beyond it. -/
theorem read_inf {x : Nat} (h : x % 2 ^ 63 = Ieee.double.infRung) : Ieee.double.read x = .infinity (x / 2 ^ 63 % 2 == 1) := by
  unfold Format.read
  have := inf_eq
  have e2 : Ieee.double.binade = 2 ^ 52 := by decide
  simp only [sign_eq, e2]
  rw [if_neg (by omega), if_neg (by omega), if_pos h]
theorem read_nan {x : Nat} (h : Ieee.double.infRung < x % 2 ^ 63) : Ieee.double.read x = .nan (x / 2 ^ 63 % 2 == 1) (x % 2 ^ 63 - Ieee.double.infRung) := by
  unfold Format.read
  have := inf_eq
  have e2 : Ieee.double.binade = 2 ^ 52 := by decide
  simp only [sign_eq, e2]
  rw [if_neg (by omega), if_neg (by omega), if_neg (by omega)]

theorem ord_le (a b : Nat) : (some (compare a b) == some Ordering.lt || some (compare a b) == some Ordering.eq) = decide (a ≤ b) := by
  rcases Nat.lt_trichotomy a b with h | h | h
  · rw [Nat.compare_eq_lt.2 h, decide_eq_true (by omega)]; rfl
  · rw [Nat.compare_eq_eq.2 h, decide_eq_true (by omega)]; rfl
  · rw [Nat.compare_eq_gt.2 h, decide_eq_false (by omega)]; rfl
theorem ord_ge (a b : Nat) : (some (compare a b) == some Ordering.gt || some (compare a b) == some Ordering.eq) = decide (b ≤ a) := by
  rcases Nat.lt_trichotomy a b with h | h | h
  · rw [Nat.compare_eq_lt.2 h, decide_eq_false (by omega)]; rfl
  · rw [Nat.compare_eq_eq.2 h, decide_eq_true (by omega)]; rfl
  · rw [Nat.compare_eq_gt.2 h, decide_eq_true (by omega)]; rfl

/-- Whether a word without a sign is at most one that is finite: any word, also one of no number. -/
theorem le_word {a b : Nat} (ha : a < 2 ^ 63) (hb : b < Ieee.double.infRung) : (Ieee.double.order a b == some Ordering.lt || Ieee.double.order a b == some Ordering.eq) = decide (a ≤ b) := by
  have := inf_eq
  have a1 : a % 2 ^ 63 = a := Nat.mod_eq_of_lt ha
  have a2 : a / 2 ^ 63 = 0 := Nat.div_eq_of_lt ha
  obtain ⟨n, j, h3, _⟩ := read_num (x := b) (by rw [Nat.mod_eq_of_lt (by omega)]; exact hb)
  rcases Nat.lt_trichotomy a Ieee.double.infRung with h | h | h
  · rw [order_pos h hb, ord_le]
  · rw [decide_eq_false (by omega)]
    unfold Format.order
    rw [read_inf (by rw [a1]; exact h), h3, a2]
    rfl
  · rw [decide_eq_false (by omega)]
    unfold Format.order
    rw [read_nan (by rw [a1]; exact h), h3]
    rfl
/-- Whether any word is at least one that is finite, above 0 and without a sign: then it has no sign itself. -/
theorem ge_word {a b : Nat} (ha : a < 2 ^ 64) (hb0 : 0 < b) (hb : b < Ieee.double.infRung) : (Ieee.double.order a b == some Ordering.gt || Ieee.double.order a b == some Ordering.eq) = decide (b ≤ a ∧ a ≤ Ieee.double.infRung) := by
  have := inf_eq
  have hbm : b % 2 ^ 63 = b := Nat.mod_eq_of_lt (by omega)
  have hbd : b / 2 ^ 63 = 0 := Nat.div_eq_of_lt (by omega)
  obtain ⟨n, j, h3, _⟩ := read_num (x := b) (by rw [hbm]; exact hb)
  rcases Nat.lt_or_ge a (2 ^ 63) with hs | hs
  · have a1 : a % 2 ^ 63 = a := Nat.mod_eq_of_lt hs
    have a2 : a / 2 ^ 63 = 0 := Nat.div_eq_of_lt hs
    rcases Nat.lt_trichotomy a Ieee.double.infRung with h | h | h
    · rw [order_pos h hb, ord_ge]
      congr 1
      simp only [eq_iff_iff]
      omega
    · rw [decide_eq_true (by omega)]
      unfold Format.order
      rw [read_inf (by rw [a1]; exact h), h3, a2]
      rfl
    · rw [decide_eq_false (by omega)]
      unfold Format.order
      rw [read_nan (by rw [a1]; exact h), h3]
      rfl
  · rw [decide_eq_false (by omega)]
    have a2 : a / 2 ^ 63 = 1 := by omega
    rcases Nat.lt_trichotomy (a % 2 ^ 63) Ieee.double.infRung with h | h | h
    · rw [order_sv h (by rw [hbm]; exact hb)]
      have hlt : sv a < sv b := by
        unfold sv
        rw [a2, hbd, hbm, if_pos (by decide), if_neg (by decide)]
        have := uv_mono hb0
        have h0 : uv 0 = 0 := by decide
        omega
      rw [Int.compare_eq_lt.2 hlt]
      rfl
    · unfold Format.order
      rw [read_inf h, h3, a2]
      rfl
    · unfold Format.order
      rw [read_nan h, h3]
      rfl

/-- A word that is faded: times one that is 0 to 1. -/
def fadeW (b x : Nat) : Nat := (Ieee.double.mul x b).getD 0
theorem fadeW_eq {b x : Nat} (hx : x % 2 ^ 63 < Ieee.double.infRung) (hb : b ≤ 4607182418800017408) : Ieee.double.mul x b = some (fadeW b x) := by
  obtain ⟨r, h, _⟩ := fade_near hx hb
  unfold fadeW
  rw [h]
  rfl
theorem word_sign {neg : Bool} {r : Nat} (h : r < 2 ^ 63) : Ieee.double.word neg r < 2 ^ 64 ∧ Ieee.double.word neg r % 2 ^ 63 = r ∧ (2 ^ 63 ≤ Ieee.double.word neg r ↔ neg = true) := by
  unfold Format.word
  rw [sign_eq]
  cases neg <;> simp <;> omega
/-- What is faded: a word, its rung not greater, its sign as it was. -/
theorem fadeW_is {b x : Nat} (hx64 : x < 2 ^ 64) (hx : x % 2 ^ 63 < Ieee.double.infRung) (hb : b ≤ 4607182418800017408) : fadeW b x < 2 ^ 64 ∧ fadeW b x % 2 ^ 63 ≤ x % 2 ^ 63 ∧ (2 ^ 63 ≤ fadeW b x ↔ 2 ^ 63 ≤ x) := by
  obtain ⟨r, h, hr, _⟩ := fade_near hx hb
  have := inf_eq
  have e : fadeW b x = Ieee.double.word (x / 2 ^ 63 % 2 == 1) r := by unfold fadeW; rw [h]; rfl
  obtain ⟨w1, w2, w3⟩ := word_sign (neg := (x / 2 ^ 63 % 2 == 1)) (r := r) (by omega)
  rw [e]
  refine ⟨w1, by omega, w3.trans ?_⟩
  rw [beq_iff_eq]
  omega
theorem fadeW_one {x : Nat} (hx64 : x < 2 ^ 64) (hx : x % 2 ^ 63 < Ieee.double.infRung) : fadeW 4607182418800017408 x = x := by
  unfold fadeW
  rw [mul_one_word hx64 hx]
  rfl
/-- By how much fading errs, in units. -/
theorem fadeW_err {b x : Nat} (hx : x % 2 ^ 63 < Ieee.double.infRung) (hb : b ≤ 4607182418800017408) :
    2 ^ 54 * (uv (fadeW b x % 2 ^ 63) * 2 ^ 1074) ≤ 2 ^ 54 * (uv (x % 2 ^ 63) * uv b) + 2 * (uv (x % 2 ^ 63) * uv b) + 2 ^ 53 * 2 ^ 1074 ∧
    2 ^ 54 * (uv (x % 2 ^ 63) * uv b) ≤ 2 ^ 54 * (uv (fadeW b x % 2 ^ 63) * 2 ^ 1074) + 2 * (uv (x % 2 ^ 63) * uv b) + 2 ^ 53 * 2 ^ 1074 := by
  obtain ⟨r, h, hr, h4, h5⟩ := fade_near hx hb
  have := inf_eq
  have e : fadeW b x = Ieee.double.word (x / 2 ^ 63 % 2 == 1) r := by unfold fadeW; rw [h]; rfl
  obtain ⟨w1, w2, w3⟩ := word_sign (neg := (x / 2 ^ 63 % 2 == 1)) (r := r) (by omega)
  rw [e, w2]
  exact ⟨h4, h5⟩
end Go.Proofs.YtdccjlaneobldaaDoor.Rnd
