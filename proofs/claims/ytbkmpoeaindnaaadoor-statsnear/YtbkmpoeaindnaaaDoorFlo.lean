/- What rounding to a float of 64 bits comes to: a magnitude's units, that they grow with its rung, that rounding keeps order, and by how much it errs. -/
import Ieee.Arith
namespace Go.Proofs.YtbkmpoeaindnaaaDoor.Rnd
open Ieee

/-- The units (of 2^-1074) of a rung. -/
def uv (r : Nat) : Nat := if r < 2 ^ 52 then r else (2 ^ 52 + r % 2 ^ 52) * 2 ^ (r / 2 ^ 52 - 1)

theorem uv_small {r : Nat} (h : r < 2 ^ 52) : uv r = r := if_pos h
theorem uv_great {e f : Nat} (hf : f < 2 ^ 52) : uv ((e + 1) * 2 ^ 52 + f) = (2 ^ 52 + f) * 2 ^ e := by
  unfold uv
  rw [if_neg (by omega)]
  have h1 : ((e + 1) * 2 ^ 52 + f) % 2 ^ 52 = f := by omega
  have h2 : ((e + 1) * 2 ^ 52 + f) / 2 ^ 52 - 1 = e := by omega
  rw [h1, h2]
theorem rung_cases (r : Nat) : r < 2 ^ 52 ∨ ∃ e f, f < 2 ^ 52 ∧ r = (e + 1) * 2 ^ 52 + f := by
  rcases Nat.lt_or_ge r (2 ^ 52) with h | h
  · exact .inl h
  · exact .inr ⟨r / 2 ^ 52 - 1, r % 2 ^ 52, by omega, by omega⟩
theorem pow_pos' (k : Nat) : 0 < 2 ^ k := Nat.pow_pos (by decide)

theorem uv_succ (r : Nat) : uv r < uv (r + 1) := by
  rcases rung_cases r with h | ⟨e, f, hf, rfl⟩
  · rw [uv_small h]
    rcases Nat.lt_or_ge (r + 1) (2 ^ 52) with h' | h'
    · rw [uv_small h']; omega
    · obtain rfl : r = 2 ^ 52 - 1 := by omega
      decide
  · rw [uv_great hf]
    rcases Nat.lt_or_ge (f + 1) (2 ^ 52) with h' | h'
    · rw [Nat.add_assoc, uv_great h']
      exact Nat.mul_lt_mul_of_pos_right (by omega) (pow_pos' e)
    · have e1 : (e + 1) * 2 ^ 52 + f + 1 = (e + 1 + 1) * 2 ^ 52 + 0 := by omega
      rw [e1, uv_great (by omega), Nat.pow_succ 2 e]
      have := pow_pos' e
      have e2 : (2 ^ 52 + 0) * (2 ^ e * 2) = (2 ^ 52 * 2) * 2 ^ e := by rw [Nat.add_zero, Nat.mul_comm (2 ^ e) 2, Nat.mul_assoc]
      rw [e2]
      exact Nat.mul_lt_mul_of_pos_right (by omega) this
theorem uv_mono {a b : Nat} (h : a < b) : uv a < uv b := by
  induction b with
  | zero => omega
  | succ b ih =>
    rcases Nat.lt_or_ge a b with h' | h'
    · exact Nat.lt_trans (ih h') (uv_succ b)
    · obtain rfl : a = b := by omega
      exact uv_succ a
theorem uv_le {a b : Nat} (h : a ≤ b) : uv a ≤ uv b := by
  rcases Nat.lt_or_ge a b with h' | h'
  · exact Nat.le_of_lt (uv_mono h')
  · obtain rfl : a = b := by omega
    exact Nat.le_refl _
theorem le_of_uv {a b : Nat} (h : uv a ≤ uv b) : a ≤ b := by
  rcases Nat.lt_or_ge b a with h' | h'
  · have := uv_mono h'; omega
  · exact h'

theorem uv_kept {L k : Nat} (h1 : k ≤ 2 ^ 53) (h2 : L = 0 ∨ 2 ^ 52 ≤ k) : uv (L * 2 ^ 52 + k) = k * 2 ^ L := by
  rcases Nat.lt_or_ge k (2 ^ 52) with h | h
  · obtain rfl : L = 0 := by omega
    rw [Nat.zero_mul, Nat.zero_add, uv_small h, Nat.pow_zero, Nat.mul_one]
  · rcases Nat.lt_or_ge k (2 ^ 53) with h' | h'
    · have e : L * 2 ^ 52 + k = (L + 1) * 2 ^ 52 + (k - 2 ^ 52) := by omega
      have e2 : 2 ^ 52 + (k - 2 ^ 52) = k := by omega
      rw [e, uv_great (by omega), e2]
    · have hk : k = 2 ^ 52 * 2 := by omega
      have e : L * 2 ^ 52 + k = (L + 1 + 1) * 2 ^ 52 + 0 := by omega
      rw [e, uv_great (by omega), Nat.pow_succ 2 L, Nat.add_zero, Nat.mul_comm (2 ^ L) 2, ← Nat.mul_assoc, hk]

/-- A rung's units are a whole number of 2^L, or below 2^52 of them. -/
theorem uv_whole (r L : Nat) : (∃ t, uv r = t * 2 ^ L) ∨ (0 < L ∧ uv r < 2 ^ 52 * 2 ^ L) := by
  rcases Nat.eq_zero_or_pos L with rfl | hL
  · exact .inl ⟨uv r, by rw [Nat.pow_zero, Nat.mul_one]⟩
  · rcases rung_cases r with h | ⟨e, f, hf, rfl⟩
    · refine .inr ⟨hL, ?_⟩
      rw [uv_small h]
      exact Nat.lt_of_lt_of_le h (Nat.le_mul_of_pos_right _ (pow_pos' L))
    · rw [uv_great hf]
      rcases Nat.lt_or_ge e L with h | h
      · refine .inr ⟨hL, ?_⟩
        obtain ⟨d, rfl⟩ : ∃ d, L = e + 1 + d := ⟨L - e - 1, by omega⟩
        have e1 : 2 ^ 52 * 2 ^ (e + 1 + d) = 2 ^ 53 * 2 ^ d * 2 ^ e := by
          rw [Nat.pow_add, Nat.pow_add, Nat.pow_one]
          have : (2 : Nat) ^ 53 = 2 ^ 52 * 2 := by decide
          rw [this]
          simp only [Nat.mul_assoc, Nat.mul_comm, Nat.mul_left_comm]
        rw [e1]
        refine Nat.mul_lt_mul_of_pos_right ?_ (pow_pos' e)
        have := pow_pos' d
        have := Nat.le_mul_of_pos_right (2 ^ 53) this
        omega
      · obtain ⟨d, rfl⟩ : ∃ d, e = L + d := ⟨e - L, by omega⟩
        exact .inl ⟨(2 ^ 52 + f) * 2 ^ d, by rw [Nat.pow_add, Nat.mul_assoc, Nat.mul_comm (2 ^ L)]⟩

theorem le_shift {a b i j : Nat} (k l : Nat) (h : a * 2 ^ i ≤ b * 2 ^ j) (e : i + l = k + j) : a * 2 ^ k ≤ b * 2 ^ l := by
  have h1 : a * 2 ^ i * 2 ^ l ≤ b * 2 ^ j * 2 ^ l := Nat.mul_le_mul_right _ h
  rw [Nat.mul_assoc, ← Nat.pow_add, e, Nat.pow_add, ← Nat.mul_assoc, Nat.mul_assoc b, Nat.mul_comm (2 ^ j), ← Nat.mul_assoc] at h1
  exact Nat.le_of_mul_le_mul_right h1 (pow_pos' j)

/-- What 'cut' comes to: the nearest whole number. -/
theorem cut_near (neg : Bool) (n drop : Nat) : 2 * (Toward.even.cut neg n drop * 2 ^ drop) ≤ 2 * n + 2 ^ drop ∧ 2 * n ≤ 2 * (Toward.even.cut neg n drop * 2 ^ drop) + 2 ^ drop := by
  unfold Toward.cut
  simp only [Nat.one_shiftLeft]
  rcases Nat.lt_or_ge (n.log2 + 2) drop with h | h
  · rw [Nat.min_eq_right (Nat.le_of_lt h)]
    have h0 : n < 2 ^ (n.log2 + 1) := Nat.lt_log2_self
    have h1 : 2 ^ (n.log2 + 2) = 2 ^ (n.log2 + 1) * 2 := Nat.pow_succ 2 _
    have h2 : n / 2 ^ (n.log2 + 2) = 0 := Nat.div_eq_of_lt (by omega)
    have h3 : n % 2 ^ (n.log2 + 2) = n := Nat.mod_eq_of_lt (by omega)
    rw [h2, h3]
    have h4 : (decide (2 ^ (n.log2 + 2) < 2 * n) || 2 ^ (n.log2 + 2) == 2 * n && 0 % 2 == 1) = false := by
      have : ¬ 2 ^ (n.log2 + 2) < 2 * n := by omega
      simp [this]
    rw [h4]
    have h5 : 2 ^ (n.log2 + 2) ≤ 2 ^ drop := Nat.pow_le_pow_right (by decide) (Nat.le_of_lt h)
    simp only [Bool.toNat_false, Nat.add_zero, Nat.zero_mul, Nat.mul_zero]
    omega
  · rw [Nat.min_eq_left h]
    have hg := pow_pos' drop
    generalize 2 ^ drop = g at hg ⊢
    have h1 := Nat.div_add_mod n g
    have h2 := Nat.mod_lt n hg
    generalize n / g = q at h1 ⊢
    generalize n % g = s at h1 h2 ⊢
    have e1 : ∀ x : Nat, (q + x) * g = g * q + x * g := fun x => by rw [Nat.add_mul, Nat.mul_comm q]
    rw [e1]
    generalize g * q = t at h1 ⊢
    by_cases hm : (decide (g < 2 * s) || g == 2 * s && q % 2 == 1) = true
    · rw [hm]
      simp only [Bool.or_eq_true, decide_eq_true_eq, Bool.and_eq_true, beq_iff_eq] at hm
      simp only [Bool.toNat_true, Nat.one_mul]
      omega
    · simp only [Bool.not_eq_true] at hm
      rw [hm]
      simp only [Bool.or_eq_false_iff, decide_eq_false_iff_not] at hm
      simp only [Bool.toNat_false, Nat.zero_mul]
      omega
theorem cut_le {neg : Bool} {n drop t : Nat} (h : n ≤ t * 2 ^ drop) : Toward.even.cut neg n drop ≤ t := by
  have h1 := (cut_near neg n drop).1
  generalize Toward.even.cut neg n drop = k at h1 ⊢
  have hg := pow_pos' drop
  rcases Nat.lt_or_ge t k with h' | h'
  · have h2 : (t + 1) * 2 ^ drop ≤ k * 2 ^ drop := Nat.mul_le_mul_right _ h'
    rw [Nat.add_mul, Nat.one_mul] at h2
    omega
  · exact h'
theorem le_cut {neg : Bool} {n drop t : Nat} (h : t * 2 ^ drop ≤ n) : t ≤ Toward.even.cut neg n drop := by
  have h1 := (cut_near neg n drop).2
  generalize Toward.even.cut neg n drop = k at h1 ⊢
  have hg := pow_pos' drop
  rcases Nat.lt_or_ge k t with h' | h'
  · have h2 : (k + 1) * 2 ^ drop ≤ t * 2 ^ drop := Nat.mul_le_mul_right _ h'
    rw [Nat.add_mul, Nat.one_mul] at h2
    omega
  · exact h'

/-- A number 'mag * 2^place' as units: 'mag * 2^P / 2^Q'. -/
def upOf (place : Int) : Nat := (place + 1074).toNat
def downOf (place : Int) : Nat := (-1074 - place).toNat

/-- The rung that 'nearest' takes, ahead of infinity. -/
def lastOf (mag : Nat) (place : Int) : Int := max (place + mag.log2 - 52) (-1074)
def keptOf (neg : Bool) (mag : Nat) (place : Int) : Nat := Toward.even.cut neg (mag <<< (place - lastOf mag place).toNat) (lastOf mag place - place).toNat
def rungOf (neg : Bool) (mag : Nat) (place : Int) : Nat := if mag = 0 then 0 else (lastOf mag place + 1074).toNat * 2 ^ 52 + keptOf neg mag place

theorem nearest_eq (neg : Bool) (mag : Nat) (place : Int) : Ieee.double.nearest neg mag place = Ieee.double.word neg (min (rungOf neg mag place) Ieee.double.infRung) := by
  unfold Format.nearest rungOf
  by_cases h : mag = 0
  · rw [if_pos h, if_pos h]
    rfl
  · rw [if_neg h, if_neg h]
    have e1 : Ieee.double.leastPlace = -1074 := by decide
    have e2 : Ieee.double.binade = 2 ^ 52 := by decide
    have e3 : Ieee.double.fractionBits = 52 := rfl
    simp only [e1, e2, e3]
    have e4 : ∀ x : Int, (x - -1074).toNat = (x + 1074).toNat := fun x => by omega
    rw [e4]
    rfl

theorem two_shift {k m g x : Nat} (h : 2 * (k * g) ≤ 2 * (m * x) + g) : (2 * k - 1) * g ≤ 2 * m * x := by
  rw [Nat.sub_mul, Nat.one_mul, Nat.mul_assoc, Nat.mul_assoc]
  omega
theorem two_back {k m g x : Nat} (h : (2 * k - 1) * g ≤ 2 * m * x) : 2 * (k * g) ≤ 2 * (m * x) + g := by
  rw [Nat.sub_mul, Nat.one_mul, Nat.mul_assoc, Nat.mul_assoc] at h
  omega

/-- All that is known of the kept digits: their place, how far they are from the number, and how great it is at least. -/
theorem kept_near (neg : Bool) {mag : Nat} (place : Int) (hm : mag ≠ 0) : ∃ L k, rungOf neg mag place = L * 2 ^ 52 + k ∧ uv (rungOf neg mag place) = k * 2 ^ L ∧ k ≤ 2 ^ 53 ∧
    (L = 0 ∨ (2 ^ 52 ≤ k ∧ 2 ^ 52 * 2 ^ (L + downOf place) ≤ mag * 2 ^ upOf place)) ∧
    (∀ t, mag * 2 ^ upOf place ≤ t * 2 ^ (L + downOf place) → k ≤ t) ∧ (∀ t, t * 2 ^ (L + downOf place) ≤ mag * 2 ^ upOf place → t ≤ k) ∧
    2 * (k * 2 ^ (L + downOf place)) ≤ 2 * (mag * 2 ^ upOf place) + 2 ^ (L + downOf place) ∧ 2 * (mag * 2 ^ upOf place) ≤ 2 * (k * 2 ^ (L + downOf place)) + 2 ^ (L + downOf place) := by
  have hlog : 2 ^ mag.log2 ≤ mag := Nat.log2_self_le hm
  have hlog' : mag < 2 ^ (mag.log2 + 1) := Nat.lt_log2_self
  have hr : rungOf neg mag place = (lastOf mag place + 1074).toNat * 2 ^ 52 + keptOf neg mag place := if_neg hm
  have hl1 : -1074 ≤ lastOf mag place := by unfold lastOf; omega
  have hl2 : place + mag.log2 - 52 ≤ lastOf mag place := by unfold lastOf; omega
  have hl3 : lastOf mag place = -1074 ∨ lastOf mag place = place + mag.log2 - 52 := by unfold lastOf; omega
  have hn : mag <<< (place - lastOf mag place).toNat = mag * 2 ^ (place - lastOf mag place).toNat := Nat.shiftLeft_eq _ _
  have hc := cut_near neg (mag <<< (place - lastOf mag place).toNat) (lastOf mag place - place).toNat
  have hcl := fun t => @cut_le neg (mag <<< (place - lastOf mag place).toNat) (lastOf mag place - place).toNat t
  have hlc := fun t => @le_cut neg (mag <<< (place - lastOf mag place).toNat) (lastOf mag place - place).toNat t
  have hk : Toward.even.cut neg (mag <<< (place - lastOf mag place).toNat) (lastOf mag place - place).toNat = keptOf neg mag place := rfl
  rw [hk, hn] at hc
  rw [hk, hn] at hcl hlc
  rw [hr]
  generalize lastOf mag place = last at *
  generalize keptOf neg mag place = k at *
  clear hk hn hr
  have hup : upOf place = (place + 1074).toNat := rfl
  have hdn : downOf place = (-1074 - place).toNat := rfl
  generalize hL : (last + 1074).toNat = L
  have ex : upOf place + (last - place).toNat = (place - last).toNat + (L + downOf place) := by omega
  have k1 : ∀ t, mag * 2 ^ upOf place ≤ t * 2 ^ (L + downOf place) → k ≤ t := fun t h => hcl t (le_shift _ _ h ex)
  have k2 : ∀ t, t * 2 ^ (L + downOf place) ≤ mag * 2 ^ upOf place → t ≤ k := fun t h => hlc t (le_shift _ _ h (by omega))
  have k3 : k ≤ 2 ^ 53 := by
    refine hcl _ (Nat.le_trans (Nat.mul_le_mul_right _ (Nat.le_of_lt hlog')) ?_)
    rw [← Nat.pow_add, ← Nat.pow_add]
    exact Nat.pow_le_pow_right (by decide) (by omega)
  have k4 : L = 0 ∨ (2 ^ 52 ≤ k ∧ 2 ^ 52 * 2 ^ (L + downOf place) ≤ mag * 2 ^ upOf place) := by
    rcases Nat.eq_zero_or_pos L with h | h
    · exact .inl h
    · have h1 : 2 ^ 52 * 2 ^ (L + downOf place) ≤ mag * 2 ^ upOf place := by
        refine Nat.le_trans ?_ (Nat.mul_le_mul_right _ hlog)
        rw [← Nat.pow_add, ← Nat.pow_add]
        exact Nat.pow_le_pow_right (by decide) (by omega)
      exact .inr ⟨k2 _ h1, h1⟩
  have k5 : 2 * (k * 2 ^ (L + downOf place)) ≤ 2 * (mag * 2 ^ upOf place) + 2 ^ (L + downOf place) := by
    have h := two_shift (k := k) (m := mag) (g := 2 ^ (last - place).toNat) (x := 2 ^ (place - last).toNat) hc.1
    have h1 := le_shift (L + downOf place) (upOf place) h (by omega)
    exact two_back h1
  have k6 : 2 * (mag * 2 ^ upOf place) ≤ 2 * (k * 2 ^ (L + downOf place)) + 2 ^ (L + downOf place) := by
    have h : 2 * mag * 2 ^ (place - last).toNat ≤ (2 * k + 1) * 2 ^ (last - place).toNat := by
      rw [Nat.add_mul, Nat.one_mul, Nat.mul_assoc, Nat.mul_assoc]
      exact hc.2
    have h1 := le_shift (upOf place) (L + downOf place) h (by omega)
    rw [Nat.add_mul, Nat.one_mul, Nat.mul_assoc, Nat.mul_assoc] at h1
    exact h1
  exact ⟨L, k, rfl, uv_kept k3 (by omega), k3, k4, k1, k2, k5, k6⟩
/-- A number that is not above a rung's is rounded to none above it. -/
theorem rung_le (neg : Bool) {mag : Nat} {place : Int} {r : Nat} (h : mag * 2 ^ upOf place ≤ uv r * 2 ^ downOf place) : rungOf neg mag place ≤ r := by
  by_cases hm : mag = 0
  · unfold rungOf
    rw [if_pos hm]
    exact Nat.zero_le _
  · obtain ⟨L, k, _, hu, _, h4, h1, _, _, _⟩ := kept_near neg place hm
    refine le_of_uv ?_
    rw [hu]
    rcases uv_whole r L with ⟨t, ht⟩ | ⟨hL, hlt⟩
    · rw [ht]
      refine Nat.mul_le_mul_right _ (h1 t ?_)
      rw [Nat.pow_add, ← Nat.mul_assoc, ← ht]
      exact h
    · exfalso
      rcases h4 with h4 | ⟨_, h4⟩
      · omega
      · rw [Nat.pow_add, ← Nat.mul_assoc] at h4
        have := Nat.mul_lt_mul_of_pos_right hlt (pow_pos' (downOf place))
        omega
/-- A number that is not below a rung's is rounded to none below it. -/
theorem le_rung (neg : Bool) {mag : Nat} {place : Int} {r : Nat} (h : uv r * 2 ^ downOf place ≤ mag * 2 ^ upOf place) : r ≤ rungOf neg mag place := by
  by_cases hm : mag = 0
  · rw [hm, Nat.zero_mul] at h
    have h0 : uv r = 0 := by
      have := pow_pos' (downOf place)
      rcases Nat.eq_zero_or_pos (uv r) with h' | h'
      · exact h'
      · have := Nat.mul_pos h' this
        omega
    have := @le_of_uv r 0 (by rw [h0]; exact Nat.zero_le _)
    omega
  · obtain ⟨L, k, _, hu, _, h4, _, h2, _, _⟩ := kept_near neg place hm
    refine le_of_uv ?_
    rw [hu]
    rcases uv_whole r L with ⟨t, ht⟩ | ⟨hL, hlt⟩
    · rw [ht]
      refine Nat.mul_le_mul_right _ (h2 t ?_)
      rw [Nat.pow_add, ← Nat.mul_assoc, ← ht]
      exact h
    · rcases h4 with h4 | ⟨h4, _⟩
      · omega
      · exact Nat.le_trans (Nat.le_of_lt hlt) (Nat.mul_le_mul_right _ h4)
/-- What a rung stands for is rounded to it. -/
theorem rung_eq (neg : Bool) {mag : Nat} {place : Int} {r : Nat} (h : mag * 2 ^ upOf place = uv r * 2 ^ downOf place) : rungOf neg mag place = r :=
  Nat.le_antisymm (rung_le neg (Nat.le_of_eq h)) (le_rung neg (Nat.le_of_eq h.symm))
/-- By how much rounding errs: by half a unit, or by 2^-53 of the number. With E = mag * 2^P and D = 2^Q, both sides times 2^54. -/
theorem rung_err (neg : Bool) (mag : Nat) (place : Int) :
    2 ^ 54 * (uv (rungOf neg mag place) * 2 ^ downOf place) ≤ 2 ^ 54 * (mag * 2 ^ upOf place) + 2 * (mag * 2 ^ upOf place) + 2 ^ 53 * 2 ^ downOf place ∧
    2 ^ 54 * (mag * 2 ^ upOf place) ≤ 2 ^ 54 * (uv (rungOf neg mag place) * 2 ^ downOf place) + 2 * (mag * 2 ^ upOf place) + 2 ^ 53 * 2 ^ downOf place := by
  by_cases hm : mag = 0
  · have h0 : rungOf neg mag place = 0 := if_pos hm
    rw [h0, hm, uv_small (by decide)]
    simp
  · obtain ⟨L, k, _, hu, _, h4, _, _, h5, h6⟩ := kept_near neg place hm
    rw [hu]
    have e1 : ∀ x, x * 2 ^ (L + downOf place) = x * 2 ^ L * 2 ^ downOf place := fun x => by rw [Nat.pow_add, Nat.mul_assoc]
    have e2 : 2 ^ (L + downOf place) = 2 ^ L * 2 ^ downOf place := Nat.pow_add _ _ _
    rw [e1, e2] at h5 h6
    rw [e1] at h4
    generalize mag * 2 ^ upOf place = E at *
    generalize k * 2 ^ L * 2 ^ downOf place = V at *
    rcases h4 with h4 | ⟨_, h4⟩
    · subst h4
      rw [Nat.pow_zero, Nat.one_mul] at h5 h6
      generalize 2 ^ downOf place = D at *
      omega
    · rw [Nat.mul_assoc] at h4
      generalize 2 ^ L * 2 ^ downOf place = G at *
      generalize 2 ^ downOf place = D at *
      omega
/-- A finite word, read. -/
theorem read_num {x : Nat} (h : x % 2 ^ 63 < Ieee.double.infRung) : ∃ m a, Ieee.double.read x = .number (x / 2 ^ 63 % 2 == 1) m (-1074 + (a : Nat)) ∧ m * 2 ^ a = uv (x % 2 ^ 63) := by
  have e1 : Ieee.double.leastPlace = -1074 := by decide
  have e2 : Ieee.double.binade = 2 ^ 52 := by decide
  have e3 : Ieee.double.signWeight = 2 ^ 63 := by decide
  unfold Format.read
  simp only [e1, e2, e3]
  by_cases h1 : x % 2 ^ 63 < 2 ^ 52
  · refine ⟨x % 2 ^ 63, 0, ?_, ?_⟩
    · rw [if_pos h1]
      rfl
    · rw [uv_small h1, Nat.pow_zero, Nat.mul_one]
  · refine ⟨2 ^ 52 + x % 2 ^ 63 % 2 ^ 52, x % 2 ^ 63 / 2 ^ 52 - 1, ?_, ?_⟩
    · rw [if_neg h1, if_pos h]
    · unfold uv
      rw [if_neg h1]

theorem pow_add' (a b : Nat) : 2 ^ (a + b) = 2 ^ a * 2 ^ b := Nat.pow_add 2 a b
theorem uv_pow (e : Nat) : uv ((e + 1) * 2 ^ 52) = 2 ^ (52 + e) := by
  have h := uv_great (e := e) (f := 0) (by decide)
  rw [Nat.add_zero, Nat.add_zero] at h
  rw [h, pow_add']
/-- The units of 1: 2^1074. -/
theorem uv_one : uv 4607182418800017408 = 2 ^ 1074 := by
  have h := uv_pow 1022
  have e : (1022 + 1) * 2 ^ 52 = 4607182418800017408 := by decide
  have e2 : 52 + 1022 = 1074 := by decide
  rw [e, e2] at h
  exact h

/-- A product of finite words: its sign, and its rung, with what is known of it: X and Y are the units of both. -/
theorem mul_near {x y : Nat} (hx : x % 2 ^ 63 < Ieee.double.infRung) (hy : y % 2 ^ 63 < Ieee.double.infRung) : ∃ r, Ieee.double.mul x y = some (Ieee.double.word ((x / 2 ^ 63 % 2 == 1) ^^ (y / 2 ^ 63 % 2 == 1)) (min r Ieee.double.infRung)) ∧
    (∀ t, uv (x % 2 ^ 63) * uv (y % 2 ^ 63) ≤ uv t * 2 ^ 1074 → r ≤ t) ∧ (∀ t, uv t * 2 ^ 1074 ≤ uv (x % 2 ^ 63) * uv (y % 2 ^ 63) → t ≤ r) ∧
    2 ^ 54 * (uv r * 2 ^ 1074) ≤ 2 ^ 54 * (uv (x % 2 ^ 63) * uv (y % 2 ^ 63)) + 2 * (uv (x % 2 ^ 63) * uv (y % 2 ^ 63)) + 2 ^ 53 * 2 ^ 1074 ∧
    2 ^ 54 * (uv (x % 2 ^ 63) * uv (y % 2 ^ 63)) ≤ 2 ^ 54 * (uv r * 2 ^ 1074) + 2 * (uv (x % 2 ^ 63) * uv (y % 2 ^ 63)) + 2 ^ 53 * 2 ^ 1074 := by
  obtain ⟨m, a, h1, h2⟩ := read_num hx
  obtain ⟨n, b, h3, h4⟩ := read_num hy
  have hp : Ieee.double.mul x y = some (Ieee.double.word ((x / 2 ^ 63 % 2 == 1) ^^ (y / 2 ^ 63 % 2 == 1)) (min (rungOf ((x / 2 ^ 63 % 2 == 1) ^^ (y / 2 ^ 63 % 2 == 1)) (m * n) (-1074 + (a : Int) + (-1074 + (b : Int)))) Ieee.double.infRung)) := by
    unfold Format.mul
    rw [h1, h3, ← nearest_eq]
    rfl
  refine ⟨_, hp, ?_⟩
  clear hp h1 h3
  generalize ((x / 2 ^ 63 % 2 == 1) ^^ (y / 2 ^ 63 % 2 == 1)) = s
  rw [← h2, ← h4]
  generalize hpl : (-1074 + (a : Int) + (-1074 + (b : Int))) = pl
  have hu : upOf pl = (pl + 1074).toNat := rfl
  have hd : downOf pl = (-1074 - pl).toNat := rfl
  have e1 : m * 2 ^ a * (n * 2 ^ b) = m * n * 2 ^ (a + b) := by
    rw [Nat.pow_add]
    simp only [Nat.mul_assoc, Nat.mul_left_comm]
  rw [e1]
  refine ⟨fun t h => rung_le s (le_shift _ _ h (by omega)), fun t h => le_rung s (le_shift _ _ h (by omega)), ?_⟩
  obtain ⟨c, hc⟩ : ∃ c, downOf pl + c = 1074 ∧ upOf pl + c = a + b := ⟨1074 - downOf pl, by omega, by omega⟩
  have e2 : m * n * 2 ^ (a + b) = m * n * 2 ^ upOf pl * 2 ^ c := by rw [← hc.2, Nat.pow_add, Nat.mul_assoc (m * n)]
  have e3 : 2 ^ 1074 = 2 ^ downOf pl * 2 ^ c := by rw [← Nat.pow_add, hc.1]
  obtain ⟨k1, k2⟩ := rung_err s (m * n) pl
  rw [e2, e3, ← Nat.mul_assoc (uv _)]
  generalize uv (rungOf s (m * n) pl) * 2 ^ downOf pl = V at *
  generalize m * n * 2 ^ upOf pl = E at *
  generalize 2 ^ downOf pl = D at *
  have k1' := Nat.mul_le_mul_right (2 ^ c) k1
  have k2' := Nat.mul_le_mul_right (2 ^ c) k2
  simp only [Nat.add_mul, Nat.mul_assoc] at k1' k2' ⊢
  exact ⟨k1', k2'⟩

/-- A finite word times one that is 0 to 1: its sign stays, its rung does not grow, and how far it is from the product. -/
theorem fade_near {x y : Nat} (hx : x % 2 ^ 63 < Ieee.double.infRung) (hy : y ≤ 4607182418800017408) : ∃ r, Ieee.double.mul x y = some (Ieee.double.word (x / 2 ^ 63 % 2 == 1) r) ∧ r ≤ x % 2 ^ 63 ∧
    2 ^ 54 * (uv r * 2 ^ 1074) ≤ 2 ^ 54 * (uv (x % 2 ^ 63) * uv y) + 2 * (uv (x % 2 ^ 63) * uv y) + 2 ^ 53 * 2 ^ 1074 ∧
    2 ^ 54 * (uv (x % 2 ^ 63) * uv y) ≤ 2 ^ 54 * (uv r * 2 ^ 1074) + 2 * (uv (x % 2 ^ 63) * uv y) + 2 ^ 53 * 2 ^ 1074 := by
  have hi : Ieee.double.infRung = 9218868437227405312 := by decide
  have y1 : y % 2 ^ 63 = y := Nat.mod_eq_of_lt (by omega)
  have y2 : y / 2 ^ 63 = 0 := Nat.div_eq_of_lt (by omega)
  obtain ⟨r, h1, h2, _, h4, h5⟩ := mul_near hx (y := y) (by omega)
  rw [y1] at h2 h4 h5
  rw [y2] at h1
  have hr : r ≤ x % 2 ^ 63 := h2 _ (Nat.mul_le_mul_left _ (uv_one ▸ uv_le hy))
  refine ⟨r, ?_, hr, h4, h5⟩
  rw [h1, Nat.min_eq_left (by omega)]
  congr 2
  cases (x / 2 ^ 63 % 2 == 1) <;> rfl

/-- A finite word times 1. -/
theorem mul_one_word {x : Nat} (hx : x < 2 ^ 64) (hf : x % 2 ^ 63 < Ieee.double.infRung) : Ieee.double.mul x 4607182418800017408 = some x := by
  have hi : Ieee.double.infRung = 9218868437227405312 := by decide
  obtain ⟨r, h1, h2, h3, _, _⟩ := mul_near hf (y := 4607182418800017408) (by decide)
  have y1 : 4607182418800017408 % 2 ^ 63 = 4607182418800017408 := by decide
  rw [y1, uv_one] at h2 h3
  have hr : r = x % 2 ^ 63 := Nat.le_antisymm (h2 _ (Nat.le_refl _)) (h3 _ (Nat.le_refl _))
  rw [h1, Nat.min_eq_left (by omega), hr]
  congr 1
  have y2 : (4607182418800017408 / 2 ^ 63 % 2 == 1) = false := by decide
  rw [y2]
  unfold Format.word
  have e3 : Ieee.double.signWeight = 2 ^ 63 := by decide
  rw [e3]
  rcases Nat.lt_or_ge x (2 ^ 63) with h | h
  · have : x / 2 ^ 63 = 0 := Nat.div_eq_of_lt h
    rw [this]
    simp
    omega
  · have : x / 2 ^ 63 = 1 := by omega
    rw [this]
    simp
    omega
end Go.Proofs.YtbkmpoeaindnaaaDoor.Rnd

/- How words of 64 bits stand to each other, and what is faded: a size is its rung; a float times one that is 0 to 1 has the same sign, and no greater size. -/
namespace Go.Proofs.YtbkmpoeaindnaaaDoor.Rnd
open Ieee

theorem inf_eq : Ieee.double.infRung = 9218868437227405312 := by decide
theorem sign_eq : Ieee.double.signWeight = 2 ^ 63 := by decide

/-- A finite word's number, in units. -/
def sv (x : Nat) : Int := if x / 2 ^ 63 % 2 = 1 then -(uv (x % 2 ^ 63) : Int) else (uv (x % 2 ^ 63) : Int)

theorem cmp_mul (a b : Int) {k : Nat} : compare (a * (2 ^ k : Nat)) (b * (2 ^ k : Nat)) = compare a b := by
  have hk : (0 : Int) < (2 ^ k : Nat) := by exact_mod_cast pow_pos' k
  generalize ((2 ^ k : Nat) : Int) = c at hk ⊢
  rcases Int.lt_trichotomy a b with h | h | h
  · have h2 := Int.mul_lt_mul_of_pos_right h hk
    rw [Int.compare_eq_lt.2 h, Int.compare_eq_lt.2 h2]
  · subst h
    simp
  · have h2 := Int.mul_lt_mul_of_pos_right h hk
    rw [Int.compare_eq_gt.2 h, Int.compare_eq_gt.2 h2]

theorem signed_eq (s : Bool) (m k : Nat) : signed s m k = (if s then -((m * 2 ^ k : Nat) : Int) else ((m * 2 ^ k : Nat) : Int)) := by
  unfold signed
  rw [Nat.shiftLeft_eq]

/-- How two finite words stand to each other: as their units do. -/
theorem order_sv {x y : Nat} (hx : x % 2 ^ 63 < Ieee.double.infRung) (hy : y % 2 ^ 63 < Ieee.double.infRung) : Ieee.double.order x y = some (compare (sv x) (sv y)) := by
  obtain ⟨m, a, h1, h2⟩ := read_num hx
  obtain ⟨n, b, h3, h4⟩ := read_num hy
  unfold Format.order
  rw [h1, h3]
  unfold Datum.order
  dsimp only
  congr 1
  generalize hc : min (-1074 + (a : Int)) (-1074 + (b : Int)) = base
  obtain ⟨c, hc1, hc2, hc3⟩ : ∃ c : Nat, base = -1074 + (c : Int) ∧ c ≤ a ∧ c ≤ b := ⟨min a b, by omega, by omega, by omega⟩
  have e1 : (-1074 + (a : Int) - base).toNat = a - c := by omega
  have e2 : (-1074 + (b : Int) - base).toNat = b - c := by omega
  rw [e1, e2, signed_eq, signed_eq, ← cmp_mul _ _ (k := c)]
  have f1 : m * 2 ^ (a - c) * 2 ^ c = m * 2 ^ a := by rw [Nat.mul_assoc, ← Nat.pow_add, Nat.sub_add_cancel hc2]
  have f2 : n * 2 ^ (b - c) * 2 ^ c = n * 2 ^ b := by rw [Nat.mul_assoc, ← Nat.pow_add, Nat.sub_add_cancel hc3]
  have g1 : (if (x / 2 ^ 63 % 2 == 1) = true then -((m * 2 ^ (a - c) : Nat) : Int) else ((m * 2 ^ (a - c) : Nat) : Int)) * (2 ^ c : Nat) = sv x := by
    unfold sv
    rw [← h2, ← f1]
    by_cases h : x / 2 ^ 63 % 2 = 1
    · rw [if_pos (by simpa using h), if_pos h]
      rw [Int.neg_mul, ← Int.natCast_mul]
    · rw [if_neg (by simpa using h), if_neg h, ← Int.natCast_mul]
  have g2 : (if (y / 2 ^ 63 % 2 == 1) = true then -((n * 2 ^ (b - c) : Nat) : Int) else ((n * 2 ^ (b - c) : Nat) : Int)) * (2 ^ c : Nat) = sv y := by
    unfold sv
    rw [← h4, ← f2]
    by_cases h : y / 2 ^ 63 % 2 = 1
    · rw [if_pos (by simpa using h), if_pos h]
      rw [Int.neg_mul, ← Int.natCast_mul]
    · rw [if_neg (by simpa using h), if_neg h, ← Int.natCast_mul]
  rw [g1, g2]

theorem cmp_uv (a b : Nat) : compare ((uv a : Nat) : Int) ((uv b : Nat) : Int) = compare a b := by
  rcases Nat.lt_trichotomy a b with h | h | h
  · rw [Nat.compare_eq_lt.2 h, Int.compare_eq_lt.2 (by exact_mod_cast uv_mono h)]
  · subst h
    simp
  · rw [Nat.compare_eq_gt.2 h, Int.compare_eq_gt.2 (by exact_mod_cast uv_mono h)]

/-- Two finite words without a sign stand as they are. -/
theorem order_pos {x y : Nat} (hx : x < Ieee.double.infRung) (hy : y < Ieee.double.infRung) : Ieee.double.order x y = some (compare x y) := by
  have x1 : x % 2 ^ 63 = x := Nat.mod_eq_of_lt (by have := inf_eq; omega)
  have y1 : y % 2 ^ 63 = y := Nat.mod_eq_of_lt (by have := inf_eq; omega)
  have x2 : x / 2 ^ 63 = 0 := Nat.div_eq_of_lt (by have := inf_eq; omega)
  have y2 : y / 2 ^ 63 = 0 := Nat.div_eq_of_lt (by have := inf_eq; omega)
  rw [order_sv (by omega) (by omega)]
  unfold sv
  rw [x1, y1, x2, y2, if_neg (by decide), if_neg (by decide), cmp_uv]
/-- A word whose rung is infinity's, or beyond it. -/
theorem read_inf {x : Nat} (h : x % 2 ^ 63 = Ieee.double.infRung) : Ieee.double.read x = .infinity (x / 2 ^ 63 % 2 == 1) := by
  unfold Format.read
  have := inf_eq
  have e2 : Ieee.double.binade = 2 ^ 52 := by decide
  simp only [sign_eq, e2]
  rw [if_neg (by omega), if_neg (by omega), if_pos h]
theorem read_nan {x : Nat} (h : Ieee.double.infRung < x % 2 ^ 63) : Ieee.double.read x = .nan (x / 2 ^ 63 % 2 == 1) (x % 2 ^ 63 - Ieee.double.infRung) := by
  unfold Format.read
  have := inf_eq
  have e2 : Ieee.double.binade = 2 ^ 52 := by decide
  simp only [sign_eq, e2]
  rw [if_neg (by omega), if_neg (by omega), if_neg (by omega)]

theorem ord_le (a b : Nat) : (some (compare a b) == some Ordering.lt || some (compare a b) == some Ordering.eq) = decide (a ≤ b) := by
  rcases Nat.lt_trichotomy a b with h | h | h
  · rw [Nat.compare_eq_lt.2 h, decide_eq_true (by omega)]; rfl
  · rw [Nat.compare_eq_eq.2 h, decide_eq_true (by omega)]; rfl
  · rw [Nat.compare_eq_gt.2 h, decide_eq_false (by omega)]; rfl
theorem ord_ge (a b : Nat) : (some (compare a b) == some Ordering.gt || some (compare a b) == some Ordering.eq) = decide (b ≤ a) := by
  rcases Nat.lt_trichotomy a b with h | h | h
  · rw [Nat.compare_eq_lt.2 h, decide_eq_false (by omega)]; rfl
  · rw [Nat.compare_eq_eq.2 h, decide_eq_true (by omega)]; rfl
  · rw [Nat.compare_eq_gt.2 h, decide_eq_true (by omega)]; rfl

/-- Whether a word without a sign is at most one that is finite: any word, also one of no number. -/
theorem le_word {a b : Nat} (ha : a < 2 ^ 63) (hb : b < Ieee.double.infRung) : (Ieee.double.order a b == some Ordering.lt || Ieee.double.order a b == some Ordering.eq) = decide (a ≤ b) := by
  have := inf_eq
  have a1 : a % 2 ^ 63 = a := Nat.mod_eq_of_lt ha
  have a2 : a / 2 ^ 63 = 0 := Nat.div_eq_of_lt ha
  obtain ⟨n, j, h3, _⟩ := read_num (x := b) (by rw [Nat.mod_eq_of_lt (by omega)]; exact hb)
  rcases Nat.lt_trichotomy a Ieee.double.infRung with h | h | h
  · rw [order_pos h hb, ord_le]
  · rw [decide_eq_false (by omega)]
    unfold Format.order
    rw [read_inf (by rw [a1]; exact h), h3, a2]
    rfl
  · rw [decide_eq_false (by omega)]
    unfold Format.order
    rw [read_nan (by rw [a1]; exact h), h3]
    rfl
/-- Whether any word is at least one that is finite, above 0 and without a sign: then it has no sign itself. -/
theorem ge_word {a b : Nat} (ha : a < 2 ^ 64) (hb0 : 0 < b) (hb : b < Ieee.double.infRung) : (Ieee.double.order a b == some Ordering.gt || Ieee.double.order a b == some Ordering.eq) = decide (b ≤ a ∧ a ≤ Ieee.double.infRung) := by
  have := inf_eq
  have hbm : b % 2 ^ 63 = b := Nat.mod_eq_of_lt (by omega)
  have hbd : b / 2 ^ 63 = 0 := Nat.div_eq_of_lt (by omega)
  obtain ⟨n, j, h3, _⟩ := read_num (x := b) (by rw [hbm]; exact hb)
  rcases Nat.lt_or_ge a (2 ^ 63) with hs | hs
  · have a1 : a % 2 ^ 63 = a := Nat.mod_eq_of_lt hs
    have a2 : a / 2 ^ 63 = 0 := Nat.div_eq_of_lt hs
    rcases Nat.lt_trichotomy a Ieee.double.infRung with h | h | h
    · rw [order_pos h hb, ord_ge]
      congr 1
      simp only [eq_iff_iff]
      omega
    · rw [decide_eq_true (by omega)]
      unfold Format.order
      rw [read_inf (by rw [a1]; exact h), h3, a2]
      rfl
    · rw [decide_eq_false (by omega)]
      unfold Format.order
      rw [read_nan (by rw [a1]; exact h), h3]
      rfl
  · rw [decide_eq_false (by omega)]
    have a2 : a / 2 ^ 63 = 1 := by omega
    rcases Nat.lt_trichotomy (a % 2 ^ 63) Ieee.double.infRung with h | h | h
    · rw [order_sv h (by rw [hbm]; exact hb)]
      have hlt : sv a < sv b := by
        unfold sv
        rw [a2, hbd, hbm, if_pos (by decide), if_neg (by decide)]
        have := uv_mono hb0
        have h0 : uv 0 = 0 := by decide
        omega
      rw [Int.compare_eq_lt.2 hlt]
      rfl
    · unfold Format.order
      rw [read_inf h, h3, a2]
      rfl
    · unfold Format.order
      rw [read_nan h, h3]
      rfl

/-- A word that is faded: times one that is 0 to 1. -/
def fadeW (b x : Nat) : Nat := (Ieee.double.mul x b).getD 0
theorem fadeW_eq {b x : Nat} (hx : x % 2 ^ 63 < Ieee.double.infRung) (hb : b ≤ 4607182418800017408) : Ieee.double.mul x b = some (fadeW b x) := by
  obtain ⟨r, h, _⟩ := fade_near hx hb
  unfold fadeW
  rw [h]
  rfl
theorem word_sign {neg : Bool} {r : Nat} (h : r < 2 ^ 63) : Ieee.double.word neg r < 2 ^ 64 ∧ Ieee.double.word neg r % 2 ^ 63 = r ∧ (2 ^ 63 ≤ Ieee.double.word neg r ↔ neg = true) := by
  unfold Format.word
  rw [sign_eq]
  cases neg <;> simp <;> omega
/-- What is faded: a word, its rung not greater, its sign as it was. -/
theorem fadeW_is {b x : Nat} (hx64 : x < 2 ^ 64) (hx : x % 2 ^ 63 < Ieee.double.infRung) (hb : b ≤ 4607182418800017408) : fadeW b x < 2 ^ 64 ∧ fadeW b x % 2 ^ 63 ≤ x % 2 ^ 63 ∧ (2 ^ 63 ≤ fadeW b x ↔ 2 ^ 63 ≤ x) := by
  obtain ⟨r, h, hr, _⟩ := fade_near hx hb
  have := inf_eq
  have e : fadeW b x = Ieee.double.word (x / 2 ^ 63 % 2 == 1) r := by unfold fadeW; rw [h]; rfl
  obtain ⟨w1, w2, w3⟩ := word_sign (neg := (x / 2 ^ 63 % 2 == 1)) (r := r) (by omega)
  rw [e]
  refine ⟨w1, by omega, w3.trans ?_⟩
  rw [beq_iff_eq]
  omega
theorem fadeW_one {x : Nat} (hx64 : x < 2 ^ 64) (hx : x % 2 ^ 63 < Ieee.double.infRung) : fadeW 4607182418800017408 x = x := by
  unfold fadeW
  rw [mul_one_word hx64 hx]
  rfl
/-- By how much fading errs, in units. -/
theorem fadeW_err {b x : Nat} (hx : x % 2 ^ 63 < Ieee.double.infRung) (hb : b ≤ 4607182418800017408) :
    2 ^ 54 * (uv (fadeW b x % 2 ^ 63) * 2 ^ 1074) ≤ 2 ^ 54 * (uv (x % 2 ^ 63) * uv b) + 2 * (uv (x % 2 ^ 63) * uv b) + 2 ^ 53 * 2 ^ 1074 ∧
    2 ^ 54 * (uv (x % 2 ^ 63) * uv b) ≤ 2 ^ 54 * (uv (fadeW b x % 2 ^ 63) * 2 ^ 1074) + 2 * (uv (x % 2 ^ 63) * uv b) + 2 ^ 53 * 2 ^ 1074 := by
  obtain ⟨r, h, hr, h4, h5⟩ := fade_near hx hb
  have := inf_eq
  have e : fadeW b x = Ieee.double.word (x / 2 ^ 63 % 2 == 1) r := by unfold fadeW; rw [h]; rfl
  obtain ⟨w1, w2, w3⟩ := word_sign (neg := (x / 2 ^ 63 % 2 == 1)) (r := r) (by omega)
  rw [e, w2]
  exact ⟨h4, h5⟩
end Go.Proofs.YtbkmpoeaindnaaaDoor.Rnd

/- The error of sums of products of faded floats, over whole numbers: why what is faded is near. -/
namespace Go.Proofs.YtbkmpoeaindnaaaDoor.Rnd

theorem row_err (T E p q d1 d2 : Nat) (h1 : T * d1 ≤ p + E) (h2 : T * d2 ≤ q + E) :
    T * T * (d1 * q + p * d2 + d1 * d2) ≤ (2 * T + 1) * (p * q) + (T + 1) * E * (p + q) + E * E := by
  have a1 : T * ((T * d1) * q) ≤ T * ((p + E) * q) := Nat.mul_le_mul_left _ (Nat.mul_le_mul_right _ h1)
  have a2 : T * (p * (T * d2)) ≤ T * (p * (q + E)) := Nat.mul_le_mul_left _ (Nat.mul_le_mul_left _ h2)
  have a3 : (T * d1) * (T * d2) ≤ (p + E) * (q + E) := Nat.mul_le_mul h1 h2
  grind

theorem prod_apart (x y g h : Int) : (g * h - x * y).natAbs ≤ (g - x).natAbs * y.natAbs + x.natAbs * (h - y).natAbs + (g - x).natAbs * (h - y).natAbs := by
  have e : g * h - x * y = (g - x) * y + x * (h - y) + (g - x) * (h - y) := by grind
  rw [e, ← Int.natAbs_mul, ← Int.natAbs_mul, ← Int.natAbs_mul]
  exact Nat.le_trans (Int.natAbs_add_le _ _) (Nat.add_le_add_right (Int.natAbs_add_le _ _) _)

/-- One row: U is 2^52, E is 2^1126, S is 2^64, C is 2^75. -/
theorem row_near {U E S C p q d a b : Nat} (hU : 1 ≤ U) (hd : 4 * (U * U) * d ≤ (4 * U + 1) * (p * q) + (2 * U + 1) * E * (p + q) + E * E) (ha : S * p ≤ a) (hb : S * q ≤ b) (hS : C * (8 * U) = 4 * (S * S)) {F : Nat} (hF : C * (4 * U) * E = F * S) :
    C * (4 * (U * U)) * d ≤ 4 * (a * b) + F * (a + b) + C * (E * E) := by
  have h1 : C * (4 * (U * U) * d) ≤ C * ((4 * U + 1) * (p * q) + (2 * U + 1) * E * (p + q) + E * E) := Nat.mul_le_mul_left _ hd
  have h2 : (S * p) * (S * q) ≤ a * b := Nat.mul_le_mul ha hb
  have h3 : F * (S * p) ≤ F * a := Nat.mul_le_mul_left _ ha
  have h4 : F * (S * q) ≤ F * b := Nat.mul_le_mul_left _ hb
  have h5 : C * ((4 * U + 1) * (p * q)) ≤ C * ((8 * U) * (p * q)) := Nat.mul_le_mul_left _ (Nat.mul_le_mul_right _ (by omega))
  have h6 : C * ((2 * U + 1) * E * (p + q)) ≤ C * ((4 * U) * E * (p + q)) := Nat.mul_le_mul_left _ (Nat.mul_le_mul_right _ (Nat.mul_le_mul_right _ (by omega)))
  have h7 : C * ((8 * U) * (p * q)) = 4 * ((S * p) * (S * q)) := by
    have : C * ((8 * U) * (p * q)) = (C * (8 * U)) * (p * q) := (Nat.mul_assoc _ _ _).symm
    rw [this, hS]
    grind
  have h8 : C * ((4 * U) * E * (p + q)) = F * (S * p) + F * (S * q) := by
    have : C * ((4 * U) * E * (p + q)) = (C * (4 * U) * E) * (p + q) := by grind
    rw [this, hF]
    grind
  have h9 : C * ((4 * U + 1) * (p * q) + (2 * U + 1) * E * (p + q) + E * E) = C * ((4 * U + 1) * (p * q)) + C * ((2 * U + 1) * E * (p + q)) + C * (E * E) := by
    rw [Nat.mul_add, Nat.mul_add]
  have h10 : C * (4 * (U * U)) * d = C * (4 * (U * U) * d) := by rw [Nat.mul_assoc]
  have h11 : F * (a + b) = F * a + F * b := Nat.mul_add _ _ _
  omega

/-- A sum of the first n. -/
def sumTo (f : Nat → Int) : Nat → Int
  | 0 => 0
  | n + 1 => sumTo f n + f n

theorem sum_sub (f g : Nat → Int) : ∀ n, sumTo f n - sumTo g n = sumTo (fun r => f r - g r) n
  | 0 => rfl
  | n + 1 => by
    have := sum_sub f g n
    simp only [sumTo]
    omega
theorem sum_abs {f : Nat → Int} {K : Nat} : ∀ {n : Nat}, (∀ r, r < n → (f r).natAbs ≤ K) → (sumTo f n).natAbs ≤ n * K
  | 0, _ => by simp [sumTo]
  | n + 1, h => by
    have h1 := sum_abs (n := n) (fun r hr => h r (by omega))
    have h2 := h n (by omega)
    have h3 := Int.natAbs_add_le (sumTo f n) (f n)
    simp only [sumTo, Nat.add_mul, Nat.one_mul]
    omega
theorem sq_nonneg (x : Int) : 0 ≤ x * x := by
  rcases Int.le_total 0 x with h | h
  · exact Int.mul_nonneg h h
  · exact Int.mul_nonneg_of_nonpos_of_nonpos h h
theorem sum_sq_nonneg (x : Nat → Int) : ∀ n, 0 ≤ sumTo (fun r => x r * x r) n
  | 0 => by simp [sumTo]
  | n + 1 => by
    have h1 := sum_sq_nonneg x n
    have h2 := sq_nonneg (x n)
    simp only [sumTo]
    omega
theorem sq_le_sum (x : Nat → Int) : ∀ {n r : Nat}, r < n → x r * x r ≤ sumTo (fun r => x r * x r) n
  | 0, _, h => by omega
  | n + 1, r, h => by
    simp only [sumTo]
    have h2 := sq_nonneg (x n)
    by_cases e : r = n
    · subst e
      have := sum_sq_nonneg x r
      omega
    · have := sq_le_sum x (n := n) (r := r) (by omega)
      omega
/-- No entry is above a column's norm. -/
theorem entry_le {x : Nat → Int} {n r a S : Nat} (hr : r < n) (ha : (S * S : Nat) * sumTo (fun r => x r * x r) n ≤ (a * a : Nat)) : S * (x r).natAbs ≤ a := by
  have h1 := sq_le_sum x hr
  have h2 : ((S * S : Nat) : Int) * (x r * x r) ≤ ((S * S : Nat) : Int) * sumTo (fun r => x r * x r) n := Int.mul_le_mul_of_nonneg_left h1 (by omega)
  have h3 : ((S * (x r).natAbs) * (S * (x r).natAbs) : Nat) ≤ a * a := by
    have e : (((S * (x r).natAbs) * (S * (x r).natAbs) : Nat) : Int) = ((S * S : Nat) : Int) * (x r * x r) := by
      have : (((x r).natAbs * (x r).natAbs : Nat) : Int) = x r * x r := Int.natAbs_mul_self
      rw [← this, ← Int.natCast_mul]
      congr 1
      grind
    have := Int.le_trans h2 ha
    rw [← e] at this
    exact_mod_cast this
  exact Nat.mul_self_le_mul_self_iff.1 h3
/-- A power of two that no tactic counts out. -/
def pw (k : Nat) : Nat := 2 ^ k
theorem pow_mul' (a b c : Nat) (h : a + b = c) : pw a * pw b = pw c := by unfold pw; rw [← h, Nat.pow_add]

/-- Why what is faded is near: a and b are both columns' norms from above, x and y entries times the number by which they are faded, g and h what came of them; the other letters are powers of two. -/
theorem fade_bound' {x y g h : Nat → Int} {n a b U E S C F M G K : Nat} (hn : n ≤ 7) (hU : 1 ≤ U)
    (c1 : C * (8 * U) = 4 * (S * S)) (c2 : C * (4 * U) * E = F * S) (c3 : C * (4 * (U * U)) = M) (k1 : G = 16384 * F) (k2 : K = 1024 * (C * (E * E)))
    (hx : ∀ r, r < n → 2 * U * (g r - x r).natAbs ≤ (x r).natAbs + E) (hy : ∀ r, r < n → 2 * U * (h r - y r).natAbs ≤ (y r).natAbs + E)
    (ha : ((S * S : Nat) : Int) * sumTo (fun r => x r * x r) n ≤ (a * a : Nat)) (hb : ((S * S : Nat) : Int) * sumTo (fun r => y r * y r) n ≤ (b * b : Nat)) :
    M * (sumTo (fun r => g r * h r) n - sumTo (fun r => x r * y r) n).natAbs ≤ K + 64 * (a * b) + G * (a + b) := by
  have row : ∀ r, r < n → M * (g r * h r - x r * y r).natAbs ≤ 4 * (a * b) + F * (a + b) + C * (E * E) := by
    intro r hr
    have h3 := row_err _ _ _ _ _ _ (hx r hr) (hy r hr)
    have h4 := prod_apart (x r) (y r) (g r) (h r)
    have h5 := entry_le hr ha
    have h6 := entry_le hr hb
    have h7 : 4 * (U * U) * (g r * h r - x r * y r).natAbs ≤ (4 * U + 1) * ((x r).natAbs * (y r).natAbs) + (2 * U + 1) * E * ((x r).natAbs + (y r).natAbs) + E * E := by
      refine Nat.le_trans (Nat.mul_le_mul_left _ h4) ?_
      have e1 : 2 * U * (2 * U) = 4 * (U * U) := by grind
      have e2 : 2 * (2 * U) + 1 = 4 * U + 1 := by omega
      rw [e1, e2] at h3
      exact h3
    have h8 := row_near hU h7 h5 h6 c1 c2
    rw [c3] at h8
    exact h8
  rw [sum_sub]
  have h1 : ∀ r, r < n → ((M : Int) * (g r * h r - x r * y r)).natAbs ≤ 4 * (a * b) + F * (a + b) + C * (E * E) := by
    intro r hr
    rw [Int.natAbs_mul, Int.natAbs_natCast]
    exact row r hr
  have h2 := sum_abs h1
  have h3 : ∀ (f : Nat → Int) (k : Nat), ∀ n, sumTo (fun r => (k : Int) * f r) n = (k : Int) * sumTo f n := by
    intro f k n
    induction n with
    | zero => simp [sumTo]
    | succ n ih => simp only [sumTo, ih, Int.mul_add]
  rw [h3 (fun r => g r * h r - x r * y r), Int.natAbs_mul, Int.natAbs_natCast] at h2
  refine Nat.le_trans h2 (Nat.le_trans (Nat.mul_le_mul_right _ hn) ?_)
  rw [k1, k2, Nat.mul_assoc 16384]
  generalize F * (a + b) = A
  generalize C * (E * E) = B
  generalize a * b = P
  omega

/-- The same with its powers of two: norms in units of 2^-2212, entries in units of 2^-2148. -/
theorem fade_bound {x y g h : Nat → Int} {n a b : Nat} (hn : n ≤ 7)
    (hx : ∀ r, r < n → 2 * pw 52 * (g r - x r).natAbs ≤ (x r).natAbs + pw 1126) (hy : ∀ r, r < n → 2 * pw 52 * (h r - y r).natAbs ≤ (y r).natAbs + pw 1126)
    (ha : ((pw 64 * pw 64 : Nat) : Int) * sumTo (fun r => x r * x r) n ≤ (a * a : Nat)) (hb : ((pw 64 * pw 64 : Nat) : Int) * sumTo (fun r => y r * y r) n ≤ (b * b : Nat)) :
    pw 181 * (sumTo (fun r => g r * h r) n - sumTo (fun r => x r * y r) n).natAbs ≤ pw 2337 + 64 * (a * b) + pw 1205 * (a + b) := by
  have c1 : pw 75 * (8 * pw 52) = 4 * (pw 64 * pw 64) := by decide
  have c3 : pw 75 * (4 * (pw 52 * pw 52)) = pw 181 := by decide
  have d1 : pw 75 * (4 * pw 52) = pw 129 := by decide
  have c2 : ∀ E F : Nat, pw 129 * E = F * pw 64 → pw 75 * (4 * pw 52) * E = F * pw 64 := fun E F h => by rw [d1]; exact h
  have k1 : ∀ F G : Nat, pw 14 * F = G → G = 16384 * F := fun F G h => h.symm
  have k2 : ∀ F G : Nat, pw 10 * F = G → G = 1024 * F := fun F G h => h.symm
  have k3 := k1 _ _ (pow_mul' 14 1191 1205 (by decide))
  refine fade_bound' (U := pw 52) (E := pw 1126) (S := pw 64) (C := pw 75) (F := pw 1191) (M := pw 181) (G := pw 1205) (K := pw 2337) hn (by decide) c1 (c2 _ _ ?_) c3 k3 (k2 _ _ ?_) hx hy ha hb
  · exact (pow_mul' 129 1126 1255 (by decide)).trans (pow_mul' 1191 64 1255 (by decide)).symm
  · have e1 := pow_mul' 1126 1126 2252 (by decide)
    have e2 := pow_mul' 75 2252 2327 (by decide)
    have e3 := pow_mul' 10 2327 2337 (by decide)
    rw [← e2, ← e1] at e3
    exact e3
end Go.Proofs.YtbkmpoeaindnaaaDoor.Rnd
