/- What rounding to a float of 64 bits comes to: a magnitude's units, that they grow with its rung, that rounding keeps order, and by how much it errs. -/
import Ieee.Arith
namespace Go.Proofs.YtdccjlaneobldaaDoor.Rnd
open Ieee

/-- The units (of 2^-1074) of a rung. -/
def uv (r : Nat) : Nat := if r < 2 ^ 52 then r else (2 ^ 52 + r % 2 ^ 52) * 2 ^ (r / 2 ^ 52 - 1)

theorem uv_small {r : Nat} (h : r < 2 ^ 52) : uv r = r := if_pos h
theorem uv_great {e f : Nat} (hf : f < 2 ^ 52) : uv ((e + 1) * 2 ^ 52 + f) = (2 ^ 52 + f) * 2 ^ e := by
  unfold uv
  rw [if_neg (by omega)]
  have h1 : ((e + 1) * 2 ^ 52 + f) % 2 ^ 52 = f := by omega
  have h2 : ((e + 1) * 2 ^ 52 + f) / 2 ^ 52 - 1 = e := by omega
  rw [h1, h2]
theorem rung_cases (r : Nat) : r < 2 ^ 52 ∨ ∃ e f, f < 2 ^ 52 ∧ r = (e + 1) * 2 ^ 52 + f := by
  rcases Nat.lt_or_ge r (2 ^ 52) with h | h
  · exact .inl h
  · exact .inr ⟨r / 2 ^ 52 - 1, r % 2 ^ 52, by omega, by omega⟩
theorem pow_pos' (k : Nat) : 0 < 2 ^ k := Nat.pow_pos (by decide)

theorem uv_succ (r : Nat) : uv r < uv (r + 1) := by
  rcases rung_cases r with h | ⟨e, f, hf, rfl⟩
  · rw [uv_small h]
    rcases Nat.lt_or_ge (r + 1) (2 ^ 52) with h' | h'
    · rw [uv_small h']; omega
    · obtain rfl : r = 2 ^ 52 - 1 := by omega
      decide
  · rw [uv_great hf]
    rcases Nat.lt_or_ge (f + 1) (2 ^ 52) with h' | h'
    · rw [Nat.add_assoc, uv_great h']
      exact Nat.mul_lt_mul_of_pos_right (by omega) (pow_pos' e)
    · have e1 : (e + 1) * 2 ^ 52 + f + 1 = (e + 1 + 1) * 2 ^ 52 + 0 := by omega
      rw [e1, uv_great (by omega), Nat.pow_succ 2 e]
      have := pow_pos' e
      have e2 : (2 ^ 52 + 0) * (2 ^ e * 2) = (2 ^ 52 * 2) * 2 ^ e := by rw [Nat.add_zero, Nat.mul_comm (2 ^ e) 2, Nat.mul_assoc]
      rw [e2]
      exact Nat.mul_lt_mul_of_pos_right (by omega) this
theorem uv_mono {a b : Nat} (h : a < b) : uv a < uv b := by
  induction b with
  | zero => omega
  | succ b ih =>
    rcases Nat.lt_or_ge a b with h' | h'
    · exact Nat.lt_trans (ih h') (uv_succ b)
    · obtain rfl : a = b := by omega
      exact uv_succ a
theorem uv_le {a b : Nat} (h : a ≤ b) : uv a ≤ uv b := by
  rcases Nat.lt_or_ge a b with h' | h'
  · exact Nat.le_of_lt (uv_mono h')
  · obtain rfl : a = b := by omega
    exact Nat.le_refl _
theorem le_of_uv {a b : Nat} (h : uv a ≤ uv b) : a ≤ b := by
  rcases Nat.lt_or_ge b a with h' | h'
  · have := uv_mono h'; omega
  · exact h'

theorem uv_kept {L k : Nat} (h1 : k ≤ 2 ^ 53) (h2 : L = 0 ∨ 2 ^ 52 ≤ k) : uv (L * 2 ^ 52 + k) = k * 2 ^ L := by
  rcases Nat.lt_or_ge k (2 ^ 52) with h | h
  · obtain rfl : L = 0 := by omega
    rw [Nat.zero_mul, Nat.zero_add, uv_small h, Nat.pow_zero, Nat.mul_one]
  · rcases Nat.lt_or_ge k (2 ^ 53) with h' | h'
    · have e : L * 2 ^ 52 + k = (L + 1) * 2 ^ 52 + (k - 2 ^ 52) := by omega
      have e2 : 2 ^ 52 + (k - 2 ^ 52) = k := by omega
      rw [e, uv_great (by omega), e2]
    · have hk : k = 2 ^ 52 * 2 := by omega
      have e : L * 2 ^ 52 + k = (L + 1 + 1) * 2 ^ 52 + 0 := by omega
      rw [e, uv_great (by omega), Nat.pow_succ 2 L, Nat.add_zero, Nat.mul_comm (2 ^ L) 2, ← Nat.mul_assoc, hk]

/-- A rung's units are a whole number of 2^L, or below 2^52 of them. -/
theorem uv_whole (r L : Nat) : (∃ t, uv r = t * 2 ^ L) ∨ (0 < L ∧ uv r < 2 ^ 52 * 2 ^ L) := by
  rcases Nat.eq_zero_or_pos L with rfl | hL
  · exact .inl ⟨uv r, by rw [Nat.pow_zero, Nat.mul_one]⟩
  · rcases rung_cases r with h | ⟨e, f, hf, rfl⟩
    · refine .inr ⟨hL, ?_⟩
      rw [uv_small h]
      exact Nat.lt_of_lt_of_le h (Nat.le_mul_of_pos_right _ (pow_pos' L))
    · rw [uv_great hf]
      rcases Nat.lt_or_ge e L with h | h
      · refine .inr ⟨hL, ?_⟩
        obtain ⟨d, rfl⟩ : ∃ d, L = e + 1 + d := ⟨L - e - 1, by omega⟩
        have e1 : 2 ^ 52 * 2 ^ (e + 1 + d) = 2 ^ 53 * 2 ^ d * 2 ^ e := by
          rw [Nat.pow_add, Nat.pow_add, Nat.pow_one]
          have : (2 : Nat) ^ 53 = 2 ^ 52 * 2 := by decide
          rw [this]
          simp only [Nat.mul_assoc, Nat.mul_comm, Nat.mul_left_comm]
        rw [e1]
        refine Nat.mul_lt_mul_of_pos_right ?_ (pow_pos' e)
        have := pow_pos' d
        have := Nat.le_mul_of_pos_right (2 ^ 53) this
        omega
      · obtain ⟨d, rfl⟩ : ∃ d, e = L + d := ⟨e - L, by omega⟩
        exact .inl ⟨(2 ^ 52 + f) * 2 ^ d, by rw [Nat.pow_add, Nat.mul_assoc, Nat.mul_comm (2 ^ L)]⟩

theorem le_shift {a b i j : Nat} (k l : Nat) (h : a * 2 ^ i ≤ b * 2 ^ j) (e : i + l = k + j) : a * 2 ^ k ≤ b * 2 ^ l := by
  have h1 : a * 2 ^ i * 2 ^ l ≤ b * 2 ^ j * 2 ^ l := Nat.mul_le_mul_right _ h
  rw [Nat.mul_assoc, ← Nat.pow_add, e, Nat.pow_add, ← Nat.mul_assoc, Nat.mul_assoc b, Nat.mul_comm (2 ^ j), ← Nat.mul_assoc] at h1
  exact Nat.le_of_mul_le_mul_right h1 (pow_pos' j)

/-- What 'cut' comes to: the nearest whole number. -/
theorem cut_near (neg : Bool) (n drop : Nat) : 2 * (Toward.even.cut neg n drop * 2 ^ drop) ≤ 2 * n + 2 ^ drop ∧ 2 * n ≤ 2 * (Toward.even.cut neg n drop * 2 ^ drop) + 2 ^ drop := by
  unfold Toward.cut
  simp only [Nat.one_shiftLeft]
  rcases Nat.lt_or_ge (n.log2 + 2) drop with h | h
  · rw [Nat.min_eq_right (Nat.le_of_lt h)]
    have h0 : n < 2 ^ (n.log2 + 1) := Nat.lt_log2_self
    have h1 : 2 ^ (n.log2 + 2) = 2 ^ (n.log2 + 1) * 2 := Nat.pow_succ 2 _
    have h2 : n / 2 ^ (n.log2 + 2) = 0 := Nat.div_eq_of_lt (by omega)
    have h3 : n % 2 ^ (n.log2 + 2) = n := Nat.mod_eq_of_lt (by omega)
    rw [h2, h3]
    have h4 : (decide (2 ^ (n.log2 + 2) < 2 * n) || 2 ^ (n.log2 + 2) == 2 * n && 0 % 2 == 1) = false := by
      have : ¬ 2 ^ (n.log2 + 2) < 2 * n := by omega
      simp [this]
    rw [h4]
    have h5 : 2 ^ (n.log2 + 2) ≤ 2 ^ drop := Nat.pow_le_pow_right (by decide) (Nat.le_of_lt h)
    simp only [Bool.toNat_false, Nat.add_zero, Nat.zero_mul, Nat.mul_zero]
    omega
  · rw [Nat.min_eq_left h]
    have hg := pow_pos' drop
    generalize 2 ^ drop = g at hg ⊢
    have h1 := Nat.div_add_mod n g
    have h2 := Nat.mod_lt n hg
    generalize n / g = q at h1 ⊢
    generalize n % g = s at h1 h2 ⊢
    have e1 : ∀ x : Nat, (q + x) * g = g * q + x * g := fun x => by rw [Nat.add_mul, Nat.mul_comm q]
    rw [e1]
    generalize g * q = t at h1 ⊢
    by_cases hm : (decide (g < 2 * s) || g == 2 * s && q % 2 == 1) = true
    · rw [hm]
      simp only [Bool.or_eq_true, decide_eq_true_eq, Bool.and_eq_true, beq_iff_eq] at hm
      simp only [Bool.toNat_true, Nat.one_mul]
      omega
    · simp only [Bool.not_eq_true] at hm
      rw [hm]
      simp only [Bool.or_eq_false_iff, decide_eq_false_iff_not] at hm
      simp only [Bool.toNat_false, Nat.zero_mul]
      omega
theorem cut_le {neg : Bool} {n drop t : Nat} (h : n ≤ t * 2 ^ drop) : Toward.even.cut neg n drop ≤ t := by
  have h1 := (cut_near neg n drop).1
  generalize Toward.even.cut neg n drop = k at h1 ⊢
  have hg := pow_pos' drop
  rcases Nat.lt_or_ge t k with h' | h'
  · have h2 : (t + 1) * 2 ^ drop ≤ k * 2 ^ drop := Nat.mul_le_mul_right _ h'
    rw [Nat.add_mul, Nat.one_mul] at h2
    omega
  · exact h'
theorem le_cut {neg : Bool} {n drop t : Nat} (h : t * 2 ^ drop ≤ n) : t ≤ Toward.even.cut neg n drop := by
  have h1 := (cut_near neg n drop).2
  generalize Toward.even.cut neg n drop = k at h1 ⊢
  have hg := pow_pos' drop
  rcases Nat.lt_or_ge k t with h' | h'
  · have h2 : (k + 1) * 2 ^ drop ≤ t * 2 ^ drop := Nat.mul_le_mul_right _ h'
    rw [Nat.add_mul, Nat.one_mul] at h2
    omega
  · exact h'

/-- A number 'mag * 2^place' as units: 'mag * 2^P / 2^Q'. -/
def upOf (place : Int) : Nat := (place + 1074).toNat
def downOf (place : Int) : Nat := (-1074 - place).toNat

/-- The rung that 'nearest' takes, ahead of infinity. -/
def lastOf (mag : Nat) (place : Int) : Int := max (place + mag.log2 - 52) (-1074)
def keptOf (neg : Bool) (mag : Nat) (place : Int) : Nat := Toward.even.cut neg (mag <<< (place - lastOf mag place).toNat) (lastOf mag place - place).toNat
def rungOf (neg : Bool) (mag : Nat) (place : Int) : Nat := if mag = 0 then 0 else (lastOf mag place + 1074).toNat * 2 ^ 52 + keptOf neg mag place

theorem nearest_eq (neg : Bool) (mag : Nat) (place : Int) : Ieee.double.nearest neg mag place = Ieee.double.word neg (min (rungOf neg mag place) Ieee.double.infRung) := by
  unfold Format.nearest rungOf
  by_cases h : mag = 0
  · rw [if_pos h, if_pos h]
    rfl
  · rw [if_neg h, if_neg h]
    have e1 : Ieee.double.leastPlace = -1074 := by decide
    have e2 : Ieee.double.binade = 2 ^ 52 := by decide
    have e3 : Ieee.double.fractionBits = 52 := rfl
    simp only [e1, e2, e3]
    have e4 : ∀ x : Int, (x - -1074).toNat = (x + 1074).toNat := fun x => by omega
    rw [e4]
    rfl

theorem two_shift {k m g x : Nat} (h : 2 * (k * g) ≤ 2 * (m * x) + g) : (2 * k - 1) * g ≤ 2 * m * x := by
  rw [Nat.sub_mul, Nat.one_mul, Nat.mul_assoc, Nat.mul_assoc]
  omega
theorem two_back {k m g x : Nat} (h : (2 * k - 1) * g ≤ 2 * m * x) : 2 * (k * g) ≤ 2 * (m * x) + g := by
  rw [Nat.sub_mul, Nat.one_mul, Nat.mul_assoc, Nat.mul_assoc] at h
  omega

/-- All that is known of the kept digits: their place, how far they are from the number, and how great it is at least. -/
theorem kept_near (neg : Bool) {mag : Nat} (place : Int) (hm : mag ≠ 0) : ∃ L k, rungOf neg mag place = L * 2 ^ 52 + k ∧ uv (rungOf neg mag place) = k * 2 ^ L ∧ k ≤ 2 ^ 53 ∧
    (L = 0 ∨ (2 ^ 52 ≤ k ∧ 2 ^ 52 * 2 ^ (L + downOf place) ≤ mag * 2 ^ upOf place)) ∧
    (∀ t, mag * 2 ^ upOf place ≤ t * 2 ^ (L + downOf place) → k ≤ t) ∧ (∀ t, t * 2 ^ (L + downOf place) ≤ mag * 2 ^ upOf place → t ≤ k) ∧
    2 * (k * 2 ^ (L + downOf place)) ≤ 2 * (mag * 2 ^ upOf place) + 2 ^ (L + downOf place) ∧ 2 * (mag * 2 ^ upOf place) ≤ 2 * (k * 2 ^ (L + downOf place)) + 2 ^ (L + downOf place) := by
  have hlog : 2 ^ mag.log2 ≤ mag := Nat.log2_self_le hm
  have hlog' : mag < 2 ^ (mag.log2 + 1) := Nat.lt_log2_self
  have hr : rungOf neg mag place = (lastOf mag place + 1074).toNat * 2 ^ 52 + keptOf neg mag place := if_neg hm
  have hl1 : -1074 ≤ lastOf mag place := by unfold lastOf; omega
  have hl2 : place + mag.log2 - 52 ≤ lastOf mag place := by unfold lastOf; omega
  have hl3 : lastOf mag place = -1074 ∨ lastOf mag place = place + mag.log2 - 52 := by unfold lastOf; omega
  have hn : mag <<< (place - lastOf mag place).toNat = mag * 2 ^ (place - lastOf mag place).toNat := Nat.shiftLeft_eq _ _
  have hc := cut_near neg (mag <<< (place - lastOf mag place).toNat) (lastOf mag place - place).toNat
  have hcl := fun t => @cut_le neg (mag <<< (place - lastOf mag place).toNat) (lastOf mag place - place).toNat t
  have hlc := fun t => @le_cut neg (mag <<< (place - lastOf mag place).toNat) (lastOf mag place - place).toNat t
  have hk : Toward.even.cut neg (mag <<< (place - lastOf mag place).toNat) (lastOf mag place - place).toNat = keptOf neg mag place := rfl
  rw [hk, hn] at hc
  rw [hk, hn] at hcl hlc
  rw [hr]
  generalize lastOf mag place = last at *
  generalize keptOf neg mag place = k at *
  clear hk hn hr
  have hup : upOf place = (place + 1074).toNat := rfl
  have hdn : downOf place = (-1074 - place).toNat := rfl
  generalize hL : (last + 1074).toNat = L
  have ex : upOf place + (last - place).toNat = (place - last).toNat + (L + downOf place) := by omega
  have k1 : ∀ t, mag * 2 ^ upOf place ≤ t * 2 ^ (L + downOf place) → k ≤ t := fun t h => hcl t (le_shift _ _ h ex)
  have k2 : ∀ t, t * 2 ^ (L + downOf place) ≤ mag * 2 ^ upOf place → t ≤ k := fun t h => hlc t (le_shift _ _ h (by omega))
  have k3 : k ≤ 2 ^ 53 := by
    refine hcl _ (Nat.le_trans (Nat.mul_le_mul_right _ (Nat.le_of_lt hlog')) ?_)
    rw [← Nat.pow_add, ← Nat.pow_add]
    exact Nat.pow_le_pow_right (by decide) (by omega)
  have k4 : L = 0 ∨ (2 ^ 52 ≤ k ∧ 2 ^ 52 * 2 ^ (L + downOf place) ≤ mag * 2 ^ upOf place) := by
    rcases Nat.eq_zero_or_pos L with h | h
    · exact .inl h
    · have h1 : 2 ^ 52 * 2 ^ (L + downOf place) ≤ mag * 2 ^ upOf place := by
        refine Nat.le_trans ?_ (Nat.mul_le_mul_right _ hlog)
        rw [← Nat.pow_add, ← Nat.pow_add]
        exact Nat.pow_le_pow_right (by decide) (by omega)
      exact .inr ⟨k2 _ h1, h1⟩
  have k5 : 2 * (k * 2 ^ (L + downOf place)) ≤ 2 * (mag * 2 ^ upOf place) + 2 ^ (L + downOf place) := by
    have h := two_shift (k := k) (m := mag) (g := 2 ^ (last - place).toNat) (x := 2 ^ (place - last).toNat) hc.1
    have h1 := le_shift (L + downOf place) (upOf place) h (by omega)
    exact two_back h1
  have k6 : 2 * (mag * 2 ^ upOf place) ≤ 2 * (k * 2 ^ (L + downOf place)) + 2 ^ (L + downOf place) := by
    have h : 2 * mag * 2 ^ (place - last).toNat ≤ (2 * k + 1) * 2 ^ (last - place).toNat := by
      rw [Nat.add_mul, Nat.one_mul, Nat.mul_assoc, Nat.mul_assoc]
      exact hc.2
    have h1 := le_shift (upOf place) (L + downOf place) h (by omega)
    rw [Nat.add_mul, Nat.one_mul, Nat.mul_assoc, Nat.mul_assoc] at h1
    exact h1
  exact ⟨L, k, rfl, uv_kept k3 (by omega), k3, k4, k1, k2, k5, k6⟩
/-- A number that is not above a rung's is rounded to none above it. -/
theorem rung_le (neg : Bool) {mag : Nat} {place : Int} {r : Nat} (h : mag * 2 ^ upOf place ≤ uv r * 2 ^ downOf place) : rungOf neg mag place ≤ r := by
  by_cases hm : mag = 0
  · unfold rungOf
    rw [if_pos hm]
    exact Nat.zero_le _
  · obtain ⟨L, k, _, hu, _, h4, h1, _, _, _⟩ := kept_near neg place hm
    refine le_of_uv ?_
    rw [hu]
    rcases uv_whole r L with ⟨t, ht⟩ | ⟨hL, hlt⟩
    · rw [ht]
      refine Nat.mul_le_mul_right _ (h1 t ?_)
      rw [Nat.pow_add, ← Nat.mul_assoc, ← ht]
      exact h
    · exfalso
      rcases h4 with h4 | ⟨_, h4⟩
      · omega
      · rw [Nat.pow_add, ← Nat.mul_assoc] at h4
        have := Nat.mul_lt_mul_of_pos_right hlt (pow_pos' (downOf place))
        omega
/-- A number that is not below a rung's is rounded to none below it. -/
theorem le_rung (neg : Bool) {mag : Nat} {place : Int} {r : Nat} (h : uv r * 2 ^ downOf place ≤ mag * 2 ^ upOf place) : r ≤ rungOf neg mag place := by
  by_cases hm : mag = 0
  · rw [hm, Nat.zero_mul] at h
    have h0 : uv r = 0 := by
      have := pow_pos' (downOf place)
      rcases Nat.eq_zero_or_pos (uv r) with h' | h'
      · exact h'
      · have := Nat.mul_pos h' this
        omega
    have := @le_of_uv r 0 (by rw [h0]; exact Nat.zero_le _)
    omega
  · obtain ⟨L, k, _, hu, _, h4, _, h2, _, _⟩ := kept_near neg place hm
    refine le_of_uv ?_
    rw [hu]
    rcases uv_whole r L with ⟨t, ht⟩ | ⟨hL, hlt⟩
    · rw [ht]
      refine Nat.mul_le_mul_right _ (h2 t ?_)
      rw [Nat.pow_add, ← Nat.mul_assoc, ← ht]
      exact h
    · rcases h4 with h4 | ⟨h4, _⟩
      · omega
      · exact Nat.le_trans (Nat.le_of_lt hlt) (Nat.mul_le_mul_right _ h4)
/-- What a rung stands for is rounded to it. -/
theorem rung_eq (neg : Bool) {mag : Nat} {place : Int} {r : Nat} (h : mag * 2 ^ upOf place = uv r * 2 ^ downOf place) : rungOf neg mag place = r :=
  Nat.le_antisymm (rung_le neg (Nat.le_of_eq h)) (le_rung neg (Nat.le_of_eq h.symm))
/-- By how much rounding errs: by half a unit, or by 2^-53 of the number. With E = mag * 2^P and D = 2^Q, both sides times 2^54. -/
theorem rung_err (neg : Bool) (mag : Nat) (place : Int) :
    2 ^ 54 * (uv (rungOf neg mag place) * 2 ^ downOf place) ≤ 2 ^ 54 * (mag * 2 ^ upOf place) + 2 * (mag * 2 ^ upOf place) + 2 ^ 53 * 2 ^ downOf place ∧
    2 ^ 54 * (mag * 2 ^ upOf place) ≤ 2 ^ 54 * (uv (rungOf neg mag place) * 2 ^ downOf place) + 2 * (mag * 2 ^ upOf place) + 2 ^ 53 * 2 ^ downOf place := by
  by_cases hm : mag = 0
  · have h0 : rungOf neg mag place = 0 := if_pos hm
    rw [h0, hm, uv_small (by decide)]
    simp
  · obtain ⟨L, k, _, hu, _, h4, _, _, h5, h6⟩ := kept_near neg place hm
    rw [hu]
    have e1 : ∀ x, x * 2 ^ (L + downOf place) = x * 2 ^ L * 2 ^ downOf place := fun x => by rw [Nat.pow_add, Nat.mul_assoc]
    have e2 : 2 ^ (L + downOf place) = 2 ^ L * 2 ^ downOf place := Nat.pow_add _ _ _
    rw [e1, e2] at h5 h6
    rw [e1] at h4
    generalize mag * 2 ^ upOf place = E at *
    generalize k * 2 ^ L * 2 ^ downOf place = V at *
    rcases h4 with h4 | ⟨_, h4⟩
    · subst h4
      rw [Nat.pow_zero, Nat.one_mul] at h5 h6
      generalize 2 ^ downOf place = D at *
      omega
    · rw [Nat.mul_assoc] at h4
      generalize 2 ^ L * 2 ^ downOf place = G at *
      generalize 2 ^ downOf place = D at *
      omega
/-- A finite word, read. -/
theorem read_num {x : Nat} (h : x % 2 ^ 63 < Ieee.double.infRung) : ∃ m a, Ieee.double.read x = .number (x / 2 ^ 63 % 2 == 1) m (-1074 + (a : Nat)) ∧ m * 2 ^ a = uv (x % 2 ^ 63) := by
  have e1 : Ieee.double.leastPlace = -1074 := by decide
  have e2 : Ieee.double.binade = 2 ^ 52 := by decide
  have e3 : Ieee.double.signWeight = 2 ^ 63 := by decide
  unfold Format.read
  simp only [e1, e2, e3]
  by_cases h1 : x % 2 ^ 63 < 2 ^ 52
  · refine ⟨x % 2 ^ 63, 0, ?_, ?_⟩
    · rw [if_pos h1]
      rfl
    · rw [uv_small h1, Nat.pow_zero, Nat.mul_one]
  · refine ⟨2 ^ 52 + x % 2 ^ 63 % 2 ^ 52, x % 2 ^ 63 / 2 ^ 52 - 1, ?_, ?_⟩
    · rw [if_neg h1, if_pos h]
    · unfold uv
      rw [if_neg h1]

theorem pow_add' (a b : Nat) : 2 ^ (a + b) = 2 ^ a * 2 ^ b := Nat.pow_add 2 a b
theorem uv_pow (e : Nat) : uv ((e + 1) * 2 ^ 52) = 2 ^ (52 + e) := by
  have h := uv_great (e := e) (f := 0) (by decide)
  rw [Nat.add_zero, Nat.add_zero] at h
  rw [h, pow_add']
/-- The units of 1: 2^1074. -/
theorem uv_one : uv 4607182418800017408 = 2 ^ 1074 := by
  have h := uv_pow 1022
  have e : (1022 + 1) * 2 ^ 52 = 4607182418800017408 := by decide
  have e2 : 52 + 1022 = 1074 := by decide
  rw [e, e2] at h
  exact h

/-- A product of finite words: its sign, and its rung, with what is known of it: X and Y are the units of both. -/
theorem mul_near {x y : Nat} (hx : x % 2 ^ 63 < Ieee.double.infRung) (hy : y % 2 ^ 63 < Ieee.double.infRung) : ∃ r, Ieee.double.mul x y = some (Ieee.double.word ((x / 2 ^ 63 % 2 == 1) ^^ (y / 2 ^ 63 % 2 == 1)) (min r Ieee.double.infRung)) ∧
    (∀ t, uv (x % 2 ^ 63) * uv (y % 2 ^ 63) ≤ uv t * 2 ^ 1074 → r ≤ t) ∧ (∀ t, uv t * 2 ^ 1074 ≤ uv (x % 2 ^ 63) * uv (y % 2 ^ 63) → t ≤ r) ∧
    2 ^ 54 * (uv r * 2 ^ 1074) ≤ 2 ^ 54 * (uv (x % 2 ^ 63) * uv (y % 2 ^ 63)) + 2 * (uv (x % 2 ^ 63) * uv (y % 2 ^ 63)) + 2 ^ 53 * 2 ^ 1074 ∧
    2 ^ 54 * (uv (x % 2 ^ 63) * uv (y % 2 ^ 63)) ≤ 2 ^ 54 * (uv r * 2 ^ 1074) + 2 * (uv (x % 2 ^ 63) * uv (y % 2 ^ 63)) + 2 ^ 53 * 2 ^ 1074 := by
  obtain ⟨m, a, h1, h2⟩ := read_num hx
  obtain ⟨n, b, h3, h4⟩ := read_num hy
  have hp : Ieee.double.mul x y = some (Ieee.double.word ((x / 2 ^ 63 % 2 == 1) ^^ (y / 2 ^ 63 % 2 == 1)) (min (rungOf ((x / 2 ^ 63 % 2 == 1) ^^ (y / 2 ^ 63 % 2 == 1)) (m * n) (-1074 + (a : Int) + (-1074 + (b : Int)))) Ieee.double.infRung)) := by
    unfold Format.mul
    rw [h1, h3, ← nearest_eq]
    rfl
  refine ⟨_, hp, ?_⟩
  clear hp h1 h3
  generalize ((x / 2 ^ 63 % 2 == 1) ^^ (y / 2 ^ 63 % 2 == 1)) = s
  rw [← h2, ← h4]
  generalize hpl : (-1074 + (a : Int) + (-1074 + (b : Int))) = pl
  have hu : upOf pl = (pl + 1074).toNat := rfl
  have hd : downOf pl = (-1074 - pl).toNat := rfl
  have e1 : m * 2 ^ a * (n * 2 ^ b) = m * n * 2 ^ (a + b) := by
    rw [Nat.pow_add]
    simp only [Nat.mul_assoc, Nat.mul_left_comm]
  rw [e1]
  refine ⟨fun t h => rung_le s (le_shift _ _ h (by omega)), fun t h => le_rung s (le_shift _ _ h (by omega)), ?_⟩
  obtain ⟨c, hc⟩ : ∃ c, downOf pl + c = 1074 ∧ upOf pl + c = a + b := ⟨1074 - downOf pl, by omega, by omega⟩
  have e2 : m * n * 2 ^ (a + b) = m * n * 2 ^ upOf pl * 2 ^ c := by rw [← hc.2, Nat.pow_add, Nat.mul_assoc (m * n)]
  have e3 : 2 ^ 1074 = 2 ^ downOf pl * 2 ^ c := by rw [← Nat.pow_add, hc.1]
  obtain ⟨k1, k2⟩ := rung_err s (m * n) pl
  rw [e2, e3, ← Nat.mul_assoc (uv _)]
  generalize uv (rungOf s (m * n) pl) * 2 ^ downOf pl = V at *
  generalize m * n * 2 ^ upOf pl = E at *
  generalize 2 ^ downOf pl = D at *
  have k1' := Nat.mul_le_mul_right (2 ^ c) k1
  have k2' := Nat.mul_le_mul_right (2 ^ c) k2
  simp only [Nat.add_mul, Nat.mul_assoc] at k1' k2' ⊢
  exact ⟨k1', k2'⟩

/-- A finite word times one that is 0 to 1: its sign stays, its rung does not grow, and how far it is from the product. -/
theorem fade_near {x y : Nat} (hx : x % 2 ^ 63 < Ieee.double.infRung) (hy : y ≤ 4607182418800017408) : ∃ r, Ieee.double.mul x y = some (Ieee.double.word (x / 2 ^ 63 % 2 == 1) r) ∧ r ≤ x % 2 ^ 63 ∧
    2 ^ 54 * (uv r * 2 ^ 1074) ≤ 2 ^ 54 * (uv (x % 2 ^ 63) * uv y) + 2 * (uv (x % 2 ^ 63) * uv y) + 2 ^ 53 * 2 ^ 1074 ∧
    2 ^ 54 * (uv (x % 2 ^ 63) * uv y) ≤ 2 ^ 54 * (uv r * 2 ^ 1074) + 2 * (uv (x % 2 ^ 63) * uv y) + 2 ^ 53 * 2 ^ 1074 := by
  have hi : Ieee.double.infRung = 9218868437227405312 := by decide
  have y1 : y % 2 ^ 63 = y := Nat.mod_eq_of_lt (by omega)
  have y2 : y / 2 ^ 63 = 0 := Nat.div_eq_of_lt (by omega)
  obtain ⟨r, h1, h2, _, h4, h5⟩ := mul_near hx (y := y) (by omega)
  rw [y1] at h2 h4 h5
  rw [y2] at h1
  have hr : r ≤ x % 2 ^ 63 := h2 _ (Nat.mul_le_mul_left _ (uv_one ▸ uv_le hy))
  refine ⟨r, ?_, hr, h4, h5⟩
  rw [h1, Nat.min_eq_left (by omega)]
  congr 2
  cases (x / 2 ^ 63 % 2 == 1) <;> rfl

/-- A finite word times 1. -/
theorem mul_one_word {x : Nat} (hx : x < 2 ^ 64) (hf : x % 2 ^ 63 < Ieee.double.infRung) : Ieee.double.mul x 4607182418800017408 = some x := by
  have hi : Ieee.double.infRung = 9218868437227405312 := by decide
  obtain ⟨r, h1, h2, h3, _, _⟩ := mul_near hf (y := 4607182418800017408) (by decide)
  have y1 : 4607182418800017408 % 2 ^ 63 = 4607182418800017408 := by decide
  rw [y1, uv_one] at h2 h3
  have hr : r = x % 2 ^ 63 := Nat.le_antisymm (h2 _ (Nat.le_refl _)) (h3 _ (Nat.le_refl _))
  rw [h1, Nat.min_eq_left (by omega), hr]
  congr 1
  have y2 : (4607182418800017408 / 2 ^ 63 % 2 == 1) = false := by decide
  rw [y2]
  unfold Format.word
  have e3 : Ieee.double.signWeight = 2 ^ 63 := by decide
  rw [e3]
  rcases Nat.lt_or_ge x (2 ^ 63) with h | h
  · have : x / 2 ^ 63 = 0 := Nat.div_eq_of_lt h
    rw [this]
    simp
    omega
  · have : x / 2 ^ 63 = 1 := by omega
    rw [this]
    simp
    omega
end Go.Proofs.YtdccjlaneobldaaDoor.Rnd
