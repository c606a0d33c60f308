/- Sums, differences, quotients of floats over whole numbers: what rounding does to them. -/
import Derived.Test.YtbkmpoeaindnaaaDoorFlo
namespace Go.Proofs.YtbkmpoeaindnaaaDoor.Rnd
open Ieee

/-- r is the rung that N/M is rounded to: no rung below N/M is above it, none above N/M is below it; and by how much it errs. -/
structure Rd (N M r : Nat) : Prop where
  up : ∀ t, N ≤ uv t * M → r ≤ t
  dn : ∀ t, uv t * M ≤ N → t ≤ r
  e1 : 2 ^ 54 * (uv r * M) ≤ 2 ^ 54 * N + 2 * N + 2 ^ 53 * M
  e2 : 2 ^ 54 * N ≤ 2 ^ 54 * (uv r * M) + 2 * N + 2 ^ 53 * M

theorem rd_rung (neg : Bool) (mag : Nat) (place : Int) : Rd (mag * 2 ^ upOf place) (2 ^ downOf place) (rungOf neg mag place) :=
  ⟨fun _ h => rung_le neg h, fun _ h => le_rung neg h, (rung_err neg mag place).1, (rung_err neg mag place).2⟩
theorem Rd.eq {N M r t : Nat} (h : Rd N M r) (e : N = uv t * M) : r = t := Nat.le_antisymm (h.up t (Nat.le_of_eq e)) (h.dn t (Nat.le_of_eq e.symm))
theorem Rd.zero {M r : Nat} (h : Rd 0 M r) : r = 0 := by
  have := h.up 0 (Nat.zero_le _)
  omega
theorem uv_zero : uv 0 = 0 := by decide

/-- Both signs. -/
def sgn (x : Nat) : Bool := x / 2 ^ 63 % 2 == 1
theorem sv_nat {x : Nat} (h : x < 2 ^ 63) : sv x = (uv x : Int) := by
  unfold sv
  rw [Nat.mod_eq_of_lt h, Nat.div_eq_of_lt h]
  rfl
theorem sv_abs (x : Nat) : (sv x).natAbs = uv (x % 2 ^ 63) := by
  unfold sv
  split <;> simp
theorem signed_sv {s : Bool} {m a c : Nat} (hc : c ≤ a) {x : Nat} (hs : s = sgn x) (h : m * 2 ^ a = uv (x % 2 ^ 63)) : signed s m (a - c) * (2 ^ c : Nat) = sv x := by
  rw [signed_eq]
  have f1 : m * 2 ^ (a - c) * 2 ^ c = m * 2 ^ a := by rw [Nat.mul_assoc, ← Nat.pow_add, Nat.sub_add_cancel hc]
  unfold sv
  rw [← h, ← f1]
  subst hs
  unfold sgn
  by_cases h1 : x / 2 ^ 63 % 2 = 1
  · rw [if_pos (by simpa using h1), if_pos h1, Int.neg_mul, ← Int.natCast_mul]
  · rw [if_neg (by simpa using h1), if_neg h1, ← Int.natCast_mul]
theorem signed_opp {s : Bool} {m k : Nat} : signed (!s) m k = -signed s m k := by
  unfold signed
  cases s <;> simp

theorem sum_at {s t : Bool} {m n a b : Nat} {X Y : Int} (hX : ∀ c, c ≤ a → signed s m (a - c) * (2 ^ c : Nat) = X) (hY : ∀ c, c ≤ b → signed t n (b - c) * (2 ^ c : Nat) = Y) :
    ∃ r, Rd (X + Y).natAbs 1 r ∧ ((Datum.number s m (-1074 + (a : Int))).sum (.number t n (-1074 + (b : Int)))).map Ieee.double.write = some (Ieee.double.word (if X + Y = 0 then s && t else decide (X + Y < 0)) (min r Ieee.double.infRung)) := by
  unfold Datum.sum
  dsimp only
  generalize hc : min (-1074 + (a : Int)) (-1074 + (b : Int)) = base
  obtain ⟨c, hc1, hc2, hc3⟩ : ∃ c : Nat, base = -1074 + (c : Int) ∧ c ≤ a ∧ c ≤ b := ⟨min a b, by omega, by omega, by omega⟩
  have e1 : (-1074 + (a : Int) - base).toNat = a - c := by omega
  have e2 : (-1074 + (b : Int) - base).toNat = b - c := by omega
  rw [e1, e2]
  have h1 := hX c hc2
  have h2 := hY c hc3
  generalize signed s m (a - c) = P at *
  generalize signed t n (b - c) = Q at *
  have hk : (0 : Int) < (2 ^ c : Nat) := by exact_mod_cast pow_pos' c
  have hs : X + Y = (P + Q) * (2 ^ c : Nat) := by rw [← h1, ← h2, Int.add_mul]
  have z : X + Y = 0 ↔ P + Q = 0 := by
    rw [hs]
    constructor
    · intro h
      rcases Int.mul_eq_zero.1 h with h | h
      · exact h
      · omega
    · intro h; rw [h, Int.zero_mul]
  have l : X + Y < 0 ↔ P + Q < 0 := by
    rw [hs]
    constructor
    · intro h
      rcases Int.lt_or_le (P + Q) 0 with h' | h'
      · exact h'
      · have := Int.mul_nonneg h' (Int.le_of_lt hk); omega
    · intro h; exact Int.mul_neg_of_neg_of_pos h hk
  have hab : (X + Y).natAbs = (P + Q).natAbs * 2 ^ c := by rw [hs, Int.natAbs_mul, Int.natAbs_natCast]
  have hu : upOf base = c := by unfold upOf; omega
  have hd : downOf base = 0 := by unfold downOf; omega
  refine ⟨rungOf (if P + Q = 0 then s && t else decide (P + Q < 0)) (P + Q).natAbs base, ?_, ?_⟩
  · have h := rd_rung (if P + Q = 0 then s && t else decide (P + Q < 0)) (P + Q).natAbs base
    rw [hu, hd, Nat.pow_zero, ← hab] at h
    exact h
  · show some (Ieee.double.nearest _ _ _) = _
    rw [nearest_eq]
    by_cases h0 : P + Q = 0
    · rw [if_pos h0, if_pos (z.2 h0)]
    · rw [if_neg h0, if_neg (fun h => h0 (z.1 h))]
      have : decide (X + Y < 0) = decide (P + Q < 0) := decide_eq_decide.2 l
      rw [this]

/-- The sum of two finite words. -/
theorem add_near {x y : Nat} (hx : x % 2 ^ 63 < Ieee.double.infRung) (hy : y % 2 ^ 63 < Ieee.double.infRung) :
    ∃ r, Rd (sv x + sv y).natAbs 1 r ∧ Ieee.double.add x y = some (Ieee.double.word (if sv x + sv y = 0 then sgn x && sgn y else decide (sv x + sv y < 0)) (min r Ieee.double.infRung)) := by
  obtain ⟨m, a, h1, h2⟩ := read_num hx
  obtain ⟨n, b, h3, h4⟩ := read_num hy
  unfold Format.add
  rw [h1, h3]
  exact sum_at (fun c hc => signed_sv hc rfl h2) (fun c hc => signed_sv hc rfl h4)
theorem sub_near {x y : Nat} (hx : x % 2 ^ 63 < Ieee.double.infRung) (hy : y % 2 ^ 63 < Ieee.double.infRung) :
    ∃ r, Rd (sv x - sv y).natAbs 1 r ∧ Ieee.double.sub x y = some (Ieee.double.word (if sv x - sv y = 0 then sgn x && !sgn y else decide (sv x - sv y < 0)) (min r Ieee.double.infRung)) := by
  obtain ⟨m, a, h1, h2⟩ := read_num hx
  obtain ⟨n, b, h3, h4⟩ := read_num hy
  unfold Format.sub
  rw [h1, h3]
  show ∃ r, _ ∧ ((Datum.number _ m _).sum (Datum.number _ n _)).map _ = _
  have h := sum_at (s := sgn x) (t := !sgn y) (X := sv x) (Y := -sv y) (m := m) (n := n) (a := a) (b := b) (fun c hc => signed_sv hc rfl h2) (fun c hc => by rw [signed_opp, Int.neg_mul, signed_sv hc rfl h4])
  have e : sv x - sv y = sv x + -sv y := by omega
  rw [e]
  exact h
/-- The sum of two words without a sign. -/
theorem add_pos {a b : Nat} (ha : a < Ieee.double.infRung) (hb : b < Ieee.double.infRung) : ∃ r, Rd (uv a + uv b) 1 r ∧ Ieee.double.add a b = some (min r Ieee.double.infRung) := by
  have hi := inf_eq
  obtain ⟨r, h1, h2⟩ := add_near (x := a) (y := b) (by omega) (by omega)
  rw [sv_nat (by omega), sv_nat (by omega)] at h1 h2
  have e : (((uv a : Nat) : Int) + (uv b : Nat)).natAbs = uv a + uv b := by omega
  rw [e] at h1
  refine ⟨r, h1, ?_⟩
  rw [h2]
  have s1 : sgn a = false := by unfold sgn; rw [Nat.div_eq_of_lt (by omega)]; rfl
  by_cases h0 : ((uv a : Nat) : Int) + (uv b : Nat) = 0
  · rw [if_pos h0, s1]; rfl
  · rw [if_neg h0, decide_eq_false (by omega)]; rfl
/-- The square of a finite word has no sign. -/
theorem sq_near {x : Nat} (hx : x % 2 ^ 63 < Ieee.double.infRung) : ∃ r, Rd (uv (x % 2 ^ 63) * uv (x % 2 ^ 63)) (2 ^ 1074) r ∧ Ieee.double.mul x x = some (min r Ieee.double.infRung) := by
  obtain ⟨r, h1, h2, h3, h4, h5⟩ := mul_near hx hx
  refine ⟨r, ⟨h2, h3, h4, h5⟩, ?_⟩
  rw [h1, Bool.xor_self]
  rfl
/-- A square hangs on the size alone. -/
theorem sq_size {x y : Nat} (h : x % 2 ^ 63 = y % 2 ^ 63) : Ieee.double.mul x x = Ieee.double.mul y y := by
  unfold Format.mul Format.read
  simp only [sign_eq]
  rw [h]
  split
  · simp [Datum.product]
  · split
    · simp [Datum.product]
    · split
      · simp [Datum.product]
      · rfl

/-- What a quotient's last digit tells: T and U are as a rung and a place give them. -/
theorem even_or (t up down : Nat) (h : up = 0 ∨ down = 0) : (∃ y, uv t * 2 ^ down = y * (2 * 2 ^ up)) ∨ uv t * 2 ^ down < 2 ^ 53 * 2 ^ up := by
  rcases uv_whole t (up + 1) with ⟨y, hy⟩ | ⟨_, hlt⟩
  · exact .inl ⟨y * 2 ^ down, by rw [hy, Nat.pow_succ]; simp only [Nat.mul_assoc, Nat.mul_comm, Nat.mul_left_comm]⟩
  · rcases Nat.eq_zero_or_pos down with hd | hd
    · refine .inr ?_
      subst hd
      rw [Nat.pow_zero, Nat.mul_one]
      rw [Nat.pow_succ] at hlt
      have e : (2 : Nat) ^ 53 = 2 ^ 52 * 2 := by decide
      rw [e, Nat.mul_assoc, Nat.mul_comm 2]
      exact hlt
    · have hu : up = 0 := by omega
      subst hu
      obtain ⟨d, rfl⟩ : ∃ d, down = d + 1 := ⟨down - 1, by omega⟩
      exact .inl ⟨uv t * 2 ^ d, by rw [Nat.pow_succ, Nat.pow_zero]; simp only [Nat.mul_assoc, Nat.mul_one]⟩
theorem sticky_up {T U n D q s : Nat} (hU : 0 < U) (hD : D = n * q + s) (hs : s < n) (hq : 2 ^ 53 ≤ q) (hT : (∃ y, T = y * (2 * U)) ∨ T < 2 ^ 53 * U) (h : 2 * D * U ≤ T * n) : (2 * q + (s != 0).toNat) * U ≤ T := by
  have hn : 0 < n := by omega
  have h1 : n * (2 * q * U) ≤ n * T := by
    have : 2 * D * U = n * (2 * q * U) + 2 * s * U := by rw [hD]; grind
    have e : T * n = n * T := Nat.mul_comm _ _
    omega
  have h2 := Nat.le_of_mul_le_mul_left h1 hn
  by_cases h0 : s = 0
  · subst h0
    simpa using h2
  · have e : (s != 0).toNat = 1 := by simp [h0]
    rw [e]
    rcases hT with ⟨y, rfl⟩ | hT
    · have h3 : q < y := by
        rcases Nat.lt_or_ge q y with h | h'
        · exact h
        · exfalso
          have a1 : y * (2 * U) * n ≤ q * (2 * U) * n := Nat.mul_le_mul_right _ (Nat.mul_le_mul_right _ h')
          have a2 : 2 * D * U = q * (2 * U) * n + 2 * s * U := by rw [hD]; grind
          have a3 : 0 < 2 * s * U := Nat.mul_pos (by omega) hU
          omega
      have h4 : (q + 1) * (2 * U) ≤ y * (2 * U) := Nat.mul_le_mul_right _ h3
      have h5 : (q + 1) * (2 * U) = (2 * q + 1) * U + U := by grind
      omega
    · exfalso
      have a1 : 2 ^ 53 * U ≤ 2 * q * U := Nat.mul_le_mul_right _ (by omega)
      omega
theorem sticky_dn {T U n D q s : Nat} (hU : 0 < U) (hD : D = n * q + s) (hs : s < n) (hq : 2 ^ 53 ≤ q) (hT : (∃ y, T = y * (2 * U)) ∨ T < 2 ^ 53 * U) (h : T * n ≤ 2 * D * U) : T ≤ (2 * q + (s != 0).toNat) * U := by
  have hn : 0 < n := by omega
  have hle : 2 * q * U ≤ (2 * q + (s != 0).toNat) * U := Nat.mul_le_mul_right _ (by omega)
  refine Nat.le_trans ?_ hle
  have h1 : n * T < n * (2 * (q + 1) * U) := by
    have a1 : 2 * D * U = n * (2 * q * U) + s * (2 * U) := by rw [hD]; grind
    have a2 : s * (2 * U) < n * (2 * U) := Nat.mul_lt_mul_of_pos_right hs (by omega)
    have a3 : n * (2 * (q + 1) * U) = n * (2 * q * U) + n * (2 * U) := by grind
    have e : T * n = n * T := Nat.mul_comm _ _
    omega
  have h2 := Nat.lt_of_mul_lt_mul_left h1
  rcases hT with ⟨y, rfl⟩ | hT
  · have h3 : y < q + 1 := by
      have : y * (2 * U) < (q + 1) * (2 * U) := by
        have e : 2 * (q + 1) * U = (q + 1) * (2 * U) := by grind
        omega
      exact Nat.lt_of_mul_lt_mul_right this
    have h4 : y * (2 * U) ≤ q * (2 * U) := Nat.mul_le_mul_right _ (by omega)
    have e : q * (2 * U) = 2 * q * U := by grind
    omega
  · have a1 : 2 ^ 53 * U ≤ 2 * q * U := Nat.mul_le_mul_right _ (by omega)
    omega

/-- The quotient of two words without a sign. -/
theorem div_pos {a b : Nat} (ha : a < Ieee.double.infRung) (hb0 : 0 < b) (hb : b < Ieee.double.infRung) : ∃ r, Ieee.double.div a b = some (min r Ieee.double.infRung) ∧
    (∀ t, uv a * 2 ^ 1074 ≤ uv t * uv b → r ≤ t) ∧ (∀ t, uv t * uv b ≤ uv a * 2 ^ 1074 → t ≤ r) := by
  have hi := inf_eq
  obtain ⟨m, i, h1, h2⟩ := read_num (x := a) (by omega)
  obtain ⟨n, j, h3, h4⟩ := read_num (x := b) (by omega)
  rw [Nat.mod_eq_of_lt (by omega)] at h2 h4
  rw [Nat.div_eq_of_lt (by omega)] at h1 h3
  have hn : n ≠ 0 := by
    intro h
    rw [h, Nat.zero_mul] at h4
    have := uv_mono hb0
    rw [uv_zero] at this
    omega
  unfold Format.div
  rw [h1, h3]
  unfold Datum.quotient
  dsimp only
  rw [if_neg hn]
  have e52 : Ieee.double.fractionBits + 2 = 54 := rfl
  rw [e52]
  generalize hmo : 54 + n.log2 - m.log2 = more
  rw [Nat.shiftLeft_eq]
  generalize hD : m * 2 ^ more = D
  generalize hp : -1074 + (i : Int) - (-1074 + (j : Int)) - (more : Int) - 1 = p
  refine ⟨rungOf false (2 * (D / n) + (D % n != 0).toNat) p, ?_, ?_⟩
  · show some (Ieee.double.nearest _ _ _) = _
    rw [nearest_eq]
    rfl
  have R := rd_rung false (2 * (D / n) + (D % n != 0).toNat) p
  have hu : upOf p = (p + 1074).toNat := rfl
  have hd : downOf p = (-1074 - p).toNat := rfl
  have hor : upOf p = 0 ∨ downOf p = 0 := by omega
  have hU := pow_pos' (upOf p)
  have ex : i + 1074 + downOf p = upOf p + (j + more + 1) := by omega
  have e1 : uv a * 2 ^ 1074 = m * 2 ^ (i + 1074) := by rw [← h2, pow_add' i 1074, Nat.mul_assoc]
  have e2 : ∀ t, uv t * uv b = uv t * n * 2 ^ j := fun t => by rw [← h4, Nat.mul_assoc]
  have e3 : 2 * D * 2 ^ upOf p = m * 2 ^ (upOf p + (more + 1)) := by
    rw [← hD, Nat.pow_add, Nat.pow_succ]
    simp only [Nat.mul_assoc, Nat.mul_comm, Nat.mul_left_comm]
  have e4 : ∀ t, uv t * 2 ^ downOf p * n = uv t * n * 2 ^ downOf p := fun t => by simp only [Nat.mul_comm, Nat.mul_left_comm]
  by_cases hm : m = 0
  · have h0 : uv a = 0 := by rw [← h2, hm, Nat.zero_mul]
    have D0 : D = 0 := by rw [← hD, hm, Nat.zero_mul]
    refine ⟨fun t _ => ?_, fun t h => ?_⟩
    · have : rungOf false (2 * (D / n) + (D % n != 0).toNat) p = 0 := by rw [D0]; simp [rungOf]
      omega
    · have h' : uv t * uv b ≤ 0 := by
        generalize (2 : Nat) ^ 1074 = K at h
        rw [h0, Nat.zero_mul] at h
        exact h
      clear h
      have hb1 := uv_mono hb0
      rw [uv_zero] at hb1
      have h5 : uv t = 0 := by
        rcases Nat.eq_zero_or_pos (uv t) with h' | h'
        · exact h'
        · have := Nat.mul_pos h' hb1
          omega
      have := @le_of_uv t 0 (by omega)
      omega
  · have hq : 2 ^ 53 ≤ D / n := by
      rw [Nat.le_div_iff_mul_le (by omega), ← hD]
      have a1 : 2 ^ m.log2 ≤ m := Nat.log2_self_le hm
      have a2 : n < 2 ^ (n.log2 + 1) := Nat.lt_log2_self
      have a3 : 2 ^ m.log2 * 2 ^ more ≤ m * 2 ^ more := Nat.mul_le_mul_right _ a1
      have a4 : 2 ^ 53 * n ≤ 2 ^ 53 * 2 ^ (n.log2 + 1) := Nat.mul_le_mul_left _ (by omega)
      rw [← Nat.pow_add] at a3 a4
      have a5 : 2 ^ (53 + (n.log2 + 1)) ≤ 2 ^ (m.log2 + more) := Nat.pow_le_pow_right (by decide) (by omega)
      omega
    have hD' : D = n * (D / n) + D % n := (Nat.div_add_mod D n).symm
    have hs := Nat.mod_lt D (Nat.pos_of_ne_zero hn)
    refine ⟨fun t h => R.up t (sticky_up hU hD' hs hq (even_or t _ _ hor) ?_), fun t h => R.dn t (sticky_dn hU hD' hs hq (even_or t _ _ hor) ?_)⟩
    · rw [e3, e4]
      rw [e1, e2] at h
      exact le_shift _ _ h (by omega)
    · rw [e3, e4]
      rw [e1, e2] at h
      exact le_shift _ _ h (by omega)
end Go.Proofs.YtbkmpoeaindnaaaDoor.Rnd
