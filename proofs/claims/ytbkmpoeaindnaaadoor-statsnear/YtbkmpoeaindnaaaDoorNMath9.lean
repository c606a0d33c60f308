/- Why Total is near to the sum of the squares, and Rest to the square. -/
import Derived.Test.YtbkmpoeaindnaaaDoorStN
import Derived.Test.YtbkmpoeaindnaaaDoorDFact
namespace Go.Proofs.YtbkmpoeaindnaaaDoor
open Go.RowKit Go.Shelf Rnd

theorem pw_eq9 (k : Nat) : pw k = 2 ^ k := rfl
/-- The sum of the squares of the last column's first k entries, in units of 2^-2148. -/
def sqS (c : Int) (xs : List Nat) (r t : Int) : Nat → Nat
  | 0 => 0
  | k + 1 => sqS c xs r t k + uv (getN c xs r t (k : Int) c % 2 ^ 63) * uv (getN c xs r t (k : Int) c % 2 ^ 63)

/-- One step of the sum: K is 2^1074, N the square, S the sum till now; T and s are what is counted, z what comes. -/
theorem near_step {T s z N S K a b : Nat} (ha : a ≤ 10240) (hb : b ≤ 295147905179352825856) (hs1 : 2 ^ 54 * (s * K) ≤ 2 ^ 54 * N + 2 * N + 2 ^ 53 * K) (hs2 : 2 ^ 54 * N ≤ 2 ^ 54 * (s * K) + 2 * N + 2 ^ 53 * K)
    (hz1 : 2 ^ 54 * (z * K) ≤ 2 ^ 54 * ((T + s) * K) + 2 * ((T + s) * K) + 2 ^ 53 * K) (hz2 : 2 ^ 54 * ((T + s) * K) ≤ 2 ^ 54 * (z * K) + 2 * ((T + s) * K) + 2 ^ 53 * K)
    (h1 : 9223372036854775808 * (T * K) ≤ 9223372036854775808 * S + a * S + b * K) (h2 : 9223372036854775808 * S ≤ 9223372036854775808 * (T * K) + a * S + b * K) (ha1 : 1024 ≤ a) :
    9223372036854775808 * (z * K) ≤ 9223372036854775808 * (S + N) + (a + 1025) * (S + N) + (b + 18446744073709551616) * K ∧ 9223372036854775808 * (S + N) ≤ 9223372036854775808 * (z * K) + (a + 1025) * (S + N) + (b + 18446744073709551616) * K := by
  rw [Nat.add_mul] at hz1 hz2
  have e1 : (a + 1025) * (S + N) = a * S + 1025 * S + a * N + 1025 * N := by grind
  have e2 : (b + 18446744073709551616) * K = b * K + 18446744073709551616 * K := Nat.add_mul _ _ _
  have c1 : a * S ≤ 10240 * S := Nat.mul_le_mul_right _ ha
  have c2 : b * K ≤ 295147905179352825856 * K := Nat.mul_le_mul_right _ hb
  have c3 : 1024 * N ≤ a * N := Nat.mul_le_mul_right _ ha1
  rw [e1, e2]
  generalize T * K = x at *
  generalize s * K = y at *
  generalize z * K = q at *
  generalize a * S = u at *
  generalize a * N = v at *
  generalize b * K = g at *
  omega
/-- How many parts of 2^63 it errs by, of the sum and of the least. -/
def cA (k : Nat) : Nat := 1024 + 1025 * k
def cB (k : Nat) : Nat := 18446744073709551616 * k
theorem cA_succ (k : Nat) : cA (k + 1) = cA k + 1025 := by unfold cA; omega
theorem cB_succ (k : Nat) : cB (k + 1) = cB k + 18446744073709551616 := by unfold cB; omega
theorem cA_le {k : Nat} (h : k ≤ 8) : cA k ≤ 10240 ∧ 1024 ≤ cA k := by unfold cA; omega
theorem cB_le {k : Nat} (h : k ≤ 8) : cB k ≤ 147573952589676412928 := by unfold cB; omega
theorem one_more {a b c K : Nat} (h : 2 ^ 54 * (a * 1) ≤ 2 ^ 54 * b + 2 * b + 2 ^ 53 * 1) (hc : c = 2 ^ 53 * K) : 2 ^ 54 * (a * K) ≤ 2 ^ 54 * (b * K) + 2 * (b * K) + c := by
  have s1 := Nat.mul_le_mul_right K h
  subst hc
  simp only [Nat.mul_one, Nat.add_mul, Nat.mul_assoc] at s1 ⊢
  exact s1
theorem one_less {a b c K : Nat} (h : 2 ^ 54 * b ≤ 2 ^ 54 * (a * 1) + 2 * b + 2 ^ 53 * 1) (hc : c = 2 ^ 53 * K) : 2 ^ 54 * (b * K) ≤ 2 ^ 54 * (a * K) + 2 * (b * K) + c := by
  have s1 := Nat.mul_le_mul_right K h
  subst hc
  simp only [Nat.mul_one, Nat.add_mul, Nat.mul_assoc] at s1 ⊢
  exact s1

theorem tot_near {c r t : Int} {xs : List Nat} (hck : checkB c xs r t = true) (hok : okF xs) : ∀ k, k ≤ 8 → ∀ T, totC c xs r t k = some T →
    9223372036854775808 * (uv T * pw 1074) ≤ 9223372036854775808 * sqS c xs r t k + cA k * sqS c xs r t k + cB k * pw 1074 ∧
    9223372036854775808 * sqS c xs r t k ≤ 9223372036854775808 * (uv T * pw 1074) + cA k * sqS c xs r t k + cB k * pw 1074
  | 0, _, T, h => by
    simp only [totC, Option.some.injEq] at h
    subst h
    rw [uv_zero]
    simp [sqS]
  | k + 1, hk, T, h => by
    obtain ⟨T0, h0, hT0⟩ := tot_ok hck hok k (by omega)
    obtain ⟨g1, g2⟩ := tot_near hck hok k (by omega) T0 h0
    have he := (ent_ok hck hok k c).1
    obtain ⟨z, z1, _, R⟩ := asq_ok (k := k) (by omega) hT0 he
    obtain ⟨_, _, Q⟩ := sq_ok he
    have hz : T = z := by
      simp only [totC] at h
      rw [h0, z1] at h
      exact (Option.some.inj h).symm
    subst hz
    have q1 := Q.e1
    have q2 := Q.e2
    rw [← pw_eq9 1074] at q1 q2
    have l1 := one_more (K := pw 1074) R.e1 rfl
    have l2 := one_less (K := pw 1074) R.e2 rfl
    have a1 := cA_le (k := k) (by omega)
    have b1 := cB_le (k := k) (by omega)
    have st := near_step a1.1 (Nat.le_trans b1 (by decide)) q1 q2 l1 l2 g1 g2 a1.2
    rw [cA_succ, cB_succ]
    simp only [sqS]
    exact st
theorem sq_int (x : Nat) : sv x * sv x = ((uv (x % 2 ^ 63) * uv (x % 2 ^ 63) : Nat) : Int) := by
  rw [← Rnd.sv_abs x]
  exact (Int.natAbs_mul_self).symm
/-- The Gram list's last entry. -/
theorem gsum_sq {n : Nat} {xs : List Nat} {r t : Int} (hck : checkB n xs r t = true) : ∀ k, N.gsum (N.ent n xs) k n n = (sqS n xs r t k : Int)
  | 0 => rfl
  | k + 1 => by
    simp only [N.gsum, sqS]
    rw [gsum_sq hck k, N.getN_ent hck (Nat.le_refl n), sq_int, Int.natCast_add]
theorem szN_last : ∀ n, n ≤ 6 → N.szN n = place n n + 1 := by decide
theorem gram_last {n : Nat} {xs : List Nat} {r t : Int} (hck : checkB n xs r t = true) (hn : n ≤ 6) : ∃ k, N.szN n = k + 1 ∧ N.pairZ n (N.gsum (N.ent n xs) (n + 1)) k = (sqS n xs r t (n + 1) : Int) := by
  refine ⟨place n n, szN_last n hn, ?_⟩
  have h : N.pairZ n (N.gsum (N.ent n xs) (n + 1)) (place n n) = N.gsum (N.ent n xs) (n + 1) n n := by
    have h := N.pairZ_at (n := n) (i := n) (j := n) (N.gsum (N.ent n xs) (n + 1)) hn (Nat.le_refl _) (Nat.le_refl _)
    rw [Nat.sub_self] at h
    exact h
  rw [h, gsum_sq hck]
theorem sqS_small {n : Nat} {xs : List Nat} {r t : Int} (hck : checkB n xs r t = true) (hok : okF xs) (hn : n ≤ 6) : sqS n xs r t (n + 1) ≤ pw 2991 := by
  have h := N.gsum_small (L := N.ent n xs) (fun r j => N.ent_okE hok (check_all hck)) (k := n + 1) (by omega) n n
  rw [gsum_sq hck, Int.natAbs_natCast] at h
  exact h
/-- Total is near to the sum of squares. -/
theorem total_near {n : Nat} {xs : List Nat} {r t : Int} (hck : checkB n xs r t = true) (hok : okF xs) (hn : n ≤ 6) {T : Nat} (hT : totC n xs r t (n + 1) = some T) :
    (((uv T * pw 1074 : Nat) : Int) - (sqS n xs r t (n + 1) : Int)).natAbs * pw 53 ≤ sqS n xs r t (n + 1) * (n + 3) * 1 + pw 1141 := by
  obtain ⟨h1, h2⟩ := tot_near hck hok (n + 1) (by omega) T hT
  have e1 : pw 67 * pw 1074 = pw 1141 := pow_mul' 67 1074 1141 (by decide)
  have e2 : pw 67 = 147573952589676412928 := by decide
  have e3 : pw 53 = 9007199254740992 := by decide
  rw [← e1, e2, e3, Nat.mul_one]
  generalize sqS n xs r t (n + 1) = S at *
  generalize uv T * pw 1074 = x at *
  generalize pw 1074 = K at *
  have c0 : cA (n + 1) ≤ 1024 * (n + 3) := by unfold cA; omega
  have c1 : cA (n + 1) * S ≤ 1024 * ((n + 3) * S) := by
    rw [← Nat.mul_assoc]
    exact Nat.mul_le_mul_right _ c0
  have c2 : cB (n + 1) * K ≤ 147573952589676412928 * K := Nat.mul_le_mul_right _ (cB_le (by omega))
  rw [Nat.mul_comm S (n + 3)]
  generalize cA (n + 1) * S = u at *
  generalize cB (n + 1) * K = v at *
  generalize (n + 3) * S = q at *
  omega
/-- Rest is near to the square. -/
theorem rest_near {x : Nat} (h : x % 9223372036854775808 ≤ pr 1442) : (((uv (sqN x) * pw 1074 : Nat) : Int) - ((uv (x % 2 ^ 63) * uv (x % 2 ^ 63) : Nat) : Int)).natAbs * pw 53 ≤ uv (x % 2 ^ 63) * uv (x % 2 ^ 63) * 1 * 1 + pw 1126 := by
  obtain ⟨_, _, Q⟩ := sq_ok h
  have q1 := Q.e1
  have q2 := Q.e2
  rw [← pw_eq9 1074] at q1 q2
  have e1 : pw 52 * pw 1074 = pw 1126 := pow_mul' 52 1074 1126 (by decide)
  have e2 : pw 52 = 4503599627370496 := by decide
  have e3 : pw 53 = 9007199254740992 := by decide
  rw [← e1, e2, e3, Nat.mul_one, Nat.mul_one]
  generalize uv (x % 2 ^ 63) * uv (x % 2 ^ 63) = M at *
  generalize uv (sqN x) * pw 1074 = y at *
  generalize pw 1074 = K at *
  omega
end Go.Proofs.YtbkmpoeaindnaaaDoor
