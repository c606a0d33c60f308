/- Plain mathematics of nat.Shr: digits shifted to the right, from behind. -/
import Derived.Test.YtceonncbflmciaaCmp
namespace Go.Proofs.Ytceonncbflmciaa

/-- The next pair of digits, and the digit that a pair gives. -/
def pairN (q d : Nat) : Nat := q * 4294967296 % 18446744073709551616 + d
def digN (p q : Nat) : Nat := q / 2 ^ p % 4294967296
def two (a b : Nat) : Nat := a * 4294967296 + b
theorem digN_lt (p q : Nat) : digN p q < 4294967296 := Nat.mod_lt _ (by omega)
theorem pairN_lt (q d : Nat) (h : d < 4294967296) : pairN q d < 18446744073709551616 := by unfold pairN; omega
theorem pairN_zero (d : Nat) : pairN 0 d = two 0 d := by unfold pairN two; omega
theorem pairN_two (a b d : Nat) (hb : b < 4294967296) : pairN (two a b) d = two b d := by unfold pairN two; omega

/-- One step of the loop: the pair of digits, and what is set. -/
def shrS (p : Nat) (s : Nat × List Nat) (x : Nat × Nat) : Nat × List Nat := (pairN s.1 x.2, s.2.set x.1 (digN p (pairN s.1 x.2)))
def shrF (p L : Nat) (l : List (Nat × Nat)) : Nat × List Nat := l.foldl (shrS p) (0, List.replicate L 0)
theorem shrF_snoc (p L : Nat) (l : List (Nat × Nat)) (x : Nat × Nat) : shrF p L (l ++ [x]) = shrS p (shrF p L l) x := by simp [shrF]

theorem shrF_length (p L : Nat) (l : List (Nat × Nat)) : (shrF p L l).2.length = L := by
  have : ∀ (l : List (Nat × Nat)) (s : Nat × List Nat), (l.foldl (shrS p) s).2.length = s.2.length := by
    intro l
    induction l with
    | nil => intro s; rfl
    | cons x r ih => intro s; rw [List.foldl_cons, ih]; simp [shrS]
  rw [shrF, this]; simp

theorem shrF_lt (p L : Nat) (l : List (Nat × Nat)) (h : ∀ x, x ∈ l → x.2 < 4294967296) : (shrF p L l).1 < 18446744073709551616 := by
  have key : ∀ (l : List (Nat × Nat)) (s : Nat × List Nat), (∀ x, x ∈ l → x.2 < 4294967296) → s.1 < 18446744073709551616 → (l.foldl (shrS p) s).1 < 18446744073709551616 := by
    intro l
    induction l with
    | nil => intro s _ hs; exact hs
    | cons x r ih =>
      intro s hx hs
      rw [List.foldl_cons]
      exact ih _ (fun y hy => hx y (List.mem_cons_of_mem _ hy)) (pairN_lt _ _ (hx x (List.mem_cons_self)))
  exact key l _ h (by simp)

/-- What comes of going through all digits from behind. -/
theorem shrF_seq (p : Nat) (Z : List Nat) (hZ : small Z) : ∀ j, j ≤ Z.length → (j ≠ 0 → (shrF p Z.length (seqB Z j)).1 = two (Z[Z.length - j + 1]?.getD 0) (Z[Z.length - j]?.getD 0)) ∧ (j = 0 → (shrF p Z.length (seqB Z j)).1 = 0) ∧
    ∀ i : Nat, Z.length - j ≤ i → i < Z.length → (shrF p Z.length (seqB Z j)).2[i]?.getD 0 = digN p (two (Z[i + 1]?.getD 0) (Z[i]?.getD 0)) := by
  intro j
  induction j with
  | zero => intro _; exact ⟨fun h => absurd rfl h, fun _ => by simp [seqB, shrF], fun i h1 h2 => by omega⟩
  | succ j ih =>
    intro hj
    obtain ⟨h1, h0, h2⟩ := ih (by omega)
    have hlen := shrF_length p Z.length (seqB Z j)
    rw [seqB_succ, shrF_snoc]
    have hz : Z.length - 1 - j = Z.length - (j + 1) := by omega
    rw [hz]
    have hpair : ∀ d, pairN (shrF p Z.length (seqB Z j)).1 d = two (Z[Z.length - (j + 1) + 1]?.getD 0) d := by
      intro d
      by_cases h : j = 0
      · rw [h0 h, h, pairN_zero, List.getElem?_eq_none (show Z.length ≤ Z.length - (0 + 1) + 1 by omega), Option.getD_none]
      · rw [h1 h, show Z.length - (j + 1) + 1 = Z.length - j by omega, pairN_two _ _ _ (small_getD hZ (Z.length - j))]
    refine ⟨fun _ => ?_, fun h => by omega, ?_⟩
    · simp only [shrS, hpair]
    · intro i hi1 hi2
      simp only [shrS, hpair]
      by_cases hi : i = Z.length - (j + 1)
      · subst hi
        rw [List.getElem?_set_self (by omega), Option.getD_some]
      · rw [List.getElem?_set_ne (by omega)]
        exact h2 i (by omega) hi2

/-- The digits of a number divided by 2 to the power of p. -/
def shrL (p : Nat) : List Nat → List Nat
  | [] => []
  | a :: r => digN p (two (r[0]?.getD 0) a) :: shrL p r
theorem shrL_length (p : Nat) (Z : List Nat) : (shrL p Z).length = Z.length := by
  induction Z with
  | nil => rfl
  | cons a r ih => simp [shrL, ih]
theorem shrL_get (p : Nat) (Z : List Nat) : ∀ i : Nat, i < Z.length → (shrL p Z)[i]?.getD 0 = digN p (two (Z[i + 1]?.getD 0) (Z[i]?.getD 0)) := by
  induction Z with
  | nil => intro i h; simp at h
  | cons a r ih =>
    intro i h
    cases i with
    | zero => rw [shrL, List.getElem?_cons_zero, List.getElem?_cons_succ, List.getElem?_cons_zero, Option.getD_some, Option.getD_some]
    | succ i =>
      rw [shrL, List.getElem?_cons_succ, List.getElem?_cons_succ, List.getElem?_cons_succ]
      exact ih i (by rw [List.length_cons] at h; omega)

theorem head_mod (r : List Nat) (hr : small r) : r[0]?.getD 0 = val r % 4294967296 := by
  cases r with
  | nil => simp [val]
  | cons b s =>
    have := (small_cons.1 hr).1
    simp only [val, List.getElem?_cons_zero, Option.getD_some]
    omega

theorem shr_arith (a v p : Nat) (hp : p < 32) (ha : a < 4294967296) : (v % 4294967296 * 4294967296 + a) / 2 ^ p % 4294967296 + 4294967296 * (v / 2 ^ p) = (a + 4294967296 * v) / 2 ^ p := by
  obtain ⟨T, hT⟩ : ∃ T, 4294967296 = 2 ^ p * T := ⟨2 ^ (32 - p), by rw [← Nat.pow_add, show p + (32 - p) = 32 from by omega]⟩
  have hq : 0 < 2 ^ p := Nat.pow_pos (by omega)
  generalize 2 ^ p = q at *
  have hTp : 0 < T := by
    rcases Nat.eq_zero_or_pos T with h | h
    · rw [h] at hT; omega
    · exact h
  have e1 : (a + 4294967296 * v) / q = a / q + T * v := by
    rw [hT, Nat.mul_assoc, Nat.add_mul_div_left _ _ hq]
  have e2 : (v % 4294967296 * 4294967296 + a) / q = a / q + T * (v % 4294967296) := by
    rw [Nat.add_comm, Nat.mul_comm (v % 4294967296) 4294967296]
    generalize v % 4294967296 = u
    rw [hT, Nat.mul_assoc, Nat.add_mul_div_left _ _ hq]
  have e3 : a / q < T := by
    rw [Nat.div_lt_iff_lt_mul hq, Nat.mul_comm, ← hT]; exact ha
  have e4 : v = q * (v / q) + v % q := (Nat.div_add_mod v q).symm
  have e5 : v % 4294967296 % q = v % q := by rw [hT]; exact Nat.mod_mul_right_mod v q T
  have e6 : T * (v % 4294967296) % 4294967296 = T * (v % q) := by
    conv => lhs; rhs; rw [hT, Nat.mul_comm q T]
    rw [Nat.mul_mod_mul_left, e5]
  have e7 : v % q < q := Nat.mod_lt _ hq
  have e8 : a / q + T * (v % q) < 4294967296 := by
    have : T * (v % q + 1) ≤ T * q := Nat.mul_le_mul_left _ e7
    rw [Nat.mul_add, Nat.mul_one, Nat.mul_comm T q, ← hT] at this
    omega
  have e9 : T * v = 4294967296 * (v / q) + T * (v % q) := by
    conv => lhs; rw [e4]
    rw [Nat.mul_add, ← Nat.mul_assoc, Nat.mul_comm T q, ← hT]
  have e10 : (a / q + T * (v % 4294967296)) % 4294967296 = a / q + T * (v % q) := by
    rw [Nat.add_mod, e6, Nat.mod_eq_of_lt (show a / q < 4294967296 by
      have : T ≤ 4294967296 := by
        have : T * 1 ≤ T * q := Nat.mul_le_mul_left _ hq
        rw [Nat.mul_comm T q, ← hT] at this; omega
      omega), Nat.mod_eq_of_lt e8]
  rw [e1, e2, e10, e9]
  omega

theorem val_shrL (p : Nat) (hp : p < 32) (Z : List Nat) (hZ : small Z) : val (shrL p Z) = val Z / 2 ^ p := by
  induction Z with
  | nil => simp [shrL, val]
  | cons a r ih =>
    have ⟨h1, h2⟩ := small_cons.1 hZ
    simp only [shrL, val, ih h2]
    rw [head_mod r h2]
    unfold digN two
    exact shr_arith a (val r) p hp h1

theorem small_shrL (p : Nat) (Z : List Nat) : small (shrL p Z) := by
  induction Z with
  | nil => exact small_nil
  | cons a r ih => exact small_cons.2 ⟨digN_lt _ _, ih⟩

/-- All digits gone through: the digits of the shifted number, and the last pair. -/
theorem shrF_all (p : Nat) (Z : List Nat) (hZ : small Z) (h0 : 0 < Z.length) : (shrF p Z.length (seqB Z Z.length)).2 = shrL p Z ∧ (shrF p Z.length (seqB Z Z.length)).1 = two (Z[1]?.getD 0) (Z[0]?.getD 0) := by
  obtain ⟨h1, _, h2⟩ := shrF_seq p Z hZ Z.length (Nat.le_refl _)
  have h1 := h1 (by omega)
  rw [Nat.sub_self] at h1 h2
  rw [Nat.zero_add] at h1
  refine ⟨?_, h1⟩
  apply list_ext_getD (by rw [shrF_length, shrL_length])
  intro i hi
  rw [shrF_length] at hi
  rw [h2 i (by omega) hi, shrL_get p Z i hi]

theorem pow_split (k : Nat) : (2 : Nat) ^ k = 4294967296 ^ (k / 32) * 2 ^ (k % 32) := by
  rw [B_pow, ← Nat.pow_add]; congr 1; omega

theorem shr_val (X : List Nat) (k : Nat) (hX : small X) (hk : k / 32 ≤ X.length) : val (shrL (k % 32) (X.drop (k / 32))) = val X / 2 ^ k := by
  rw [val_shrL _ (Nat.mod_lt _ (by omega)) _ (small_drop _ hX), pow_split k, ← Nat.div_div_eq_div_mul]
  congr 1
  have h1 := val_split X (k / 32)
  have hl : (X.take (k / 32)).length = k / 32 := by simp; omega
  have h2 := val_lt (small_take (k / 32) hX)
  rw [hl] at h1 h2
  rw [h1, Nat.add_mul_div_left _ _ (Nat.pow_pos (by omega)), Nat.div_eq_of_lt h2, Nat.zero_add]

theorem shr_exact (X : List Nat) (k : Nat) (hX : small X) (hk : k / 32 < X.length) : (val X % 2 ^ k = 0) ↔ ((X.drop (k / 32))[0]?.getD 0 % 2 ^ (k % 32) = 0 ∧ sizeL (X.take (k / 32)) = 0) := by
  have h1 := val_split X (k / 32)
  have hl : (X.take (k / 32)).length = k / 32 := by simp; omega
  have h2 := val_lt (small_take (k / 32) hX)
  rw [hl] at h1 h2
  have hz : sizeL (X.take (k / 32)) = 0 ↔ val (X.take (k / 32)) = 0 := by
    constructor
    · exact sizeL_zero_val
    · intro h
      have := val_zero_nil (norm_trimL _) (by rw [val_trimL]; exact h)
      have := congrArg List.length this
      rwa [length_trimL] at this
  rw [hz, head_mod _ (small_drop _ hX), h1, pow_split k, Nat.mod_mul]
  generalize val (X.take (k / 32)) = lo at *
  generalize val (X.drop (k / 32)) = hi at *
  have hP : 0 < 4294967296 ^ (k / 32) := Nat.pow_pos (by omega)
  have hq : hi % 4294967296 % 2 ^ (k % 32) = hi % 2 ^ (k % 32) := Nat.mod_mod_of_dvd _ ⟨2 ^ (32 - k % 32), by rw [← Nat.pow_add, show k % 32 + (32 - k % 32) = 32 from by omega]⟩
  rw [hq, Nat.add_mul_mod_self_left, Nat.mod_eq_of_lt h2, Nat.add_mul_div_left _ _ hP, Nat.div_eq_of_lt h2, Nat.zero_add]
  constructor
  · intro h
    have h3 : lo = 0 := by omega
    subst h3
    have h4 : 4294967296 ^ (k / 32) * (hi % 2 ^ (k % 32)) = 0 := by omega
    rcases Nat.mul_eq_zero.1 h4 with h5 | h5
    · omega
    · exact ⟨h5, rfl⟩
  · rintro ⟨h3, rfl⟩
    rw [h3]; simp
end Go.Proofs.Ytceonncbflmciaa
