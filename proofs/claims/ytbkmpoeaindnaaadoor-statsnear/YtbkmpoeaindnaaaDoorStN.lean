/- The numbers that stats tells of a factor that may be: they are floats, and what stands above what. -/
import Derived.Test.YtbkmpoeaindnaaaDoorSMath
import Derived.Test.YtbkmpoeaindnaaaDoorFMath
import Derived.Test.YtbkmpoeaindnaaaDoorStOne
import Derived.Test.YtbkmpoeaindnaaaDoorStThree
namespace Go.Proofs.YtbkmpoeaindnaaaDoor
open Go.RowKit Go.Shelf Rnd Ieee

/-- The rung of 2^(e - 1022). -/
def pr (e : Nat) : Nat := (e + 1) * 2 ^ 52
theorem uv_pr (e : Nat) : uv (pr e) = 2 ^ (52 + e) := uv_pow e
theorem pr_le {a b : Nat} (h : a ≤ b) : pr a ≤ pr b := Nat.mul_le_mul_right _ (by omega)
theorem pr_fin {e : Nat} (h : e < 2046) : pr e < 9218868437227405312 := by unfold pr; omega

theorem pow_two_eq {a b c d : Nat} (h : a + b = c + d) : 2 ^ a * 2 ^ b = 2 ^ c * 2 ^ d := by rw [← Nat.pow_add, ← Nat.pow_add, h]

theorem ent_ok {c r t : Int} {xs : List Nat} (hck : checkB c xs r t = true) (hok : okF xs) (i j : Int) : getN c xs r t i j % 9223372036854775808 ≤ pr 1442 ∧ getN c xs r t i j < 18446744073709551616 := by
  have e : pr 1442 = 6498694262295625728 := by decide
  rw [e]
  unfold getN
  split
  · refine ⟨?_, okF_getD hok _⟩
    generalize place c.toNat i.toNat + (j.toNat - i.toNat) = q
    by_cases hq : q < xs.length
    · have h := leH_at (check_all hck) hq
      rw [leH_eq] at h
      exact of_decide_eq_true h
    · rw [List.getElem?_eq_none (by omega)]
      simp
  · decide

/-- A float's square. -/
def sqN (x : Nat) : Nat := (Ieee.double.mul x x).getD 0
theorem sq_ok {x : Nat} (h : x % 9223372036854775808 ≤ pr 1442) : Ieee.double.mul x x = some (sqN x) ∧ sqN x ≤ pr 1862 ∧ Rd (uv (x % 2 ^ 63) * uv (x % 2 ^ 63)) (2 ^ 1074) (sqN x) := by
  have hi := inf_eq
  have h1 := pr_fin (e := 1442) (by decide)
  have h2 := pr_fin (e := 1862) (by decide)
  obtain ⟨r, R, hm⟩ := sq_near (x := x) (by omega)
  have hr : r ≤ pr 1862 := R.up _ (by
    have k := uv_le (show x % 2 ^ 63 ≤ pr 1442 from h)
    rw [uv_pr] at k ⊢
    have k2 := Nat.mul_le_mul k k
    rw [pow_two_eq (a := 52 + 1862) (b := 1074) (c := 52 + 1442) (d := 52 + 1442) (by decide)]
    exact k2)
  have e : sqN x = r := by unfold sqN; rw [hm, Nat.min_eq_left (by omega)]; rfl
  rw [e]
  exact ⟨by rw [hm, Nat.min_eq_left (by omega)], hr, R⟩
theorem cls_sq {x : Nat} (h : x % 9223372036854775808 ≤ pr 1442) : opC .mul (cls x) (cls x) = some (sqN x) := by
  have h1 := pr_fin (e := 1442) (by decide)
  rw [cls_num (by omega)]
  exact (sq_ok h).1

/-- A sum and a square. -/
theorem asq_ok {a x k : Nat} (hk : k ≤ 100) (ha : a ≤ pr (1862 + k)) (h : x % 9223372036854775808 ≤ pr 1442) : ∃ z, asqC (some a) (cls x) = some z ∧ z ≤ pr (1862 + (k + 1)) ∧ Rd (uv a + uv (sqN x)) 1 z := by
  have hi := inf_eq
  have h1 := pr_fin (e := 1862 + k) (by omega)
  have h2 := pr_fin (e := 1862) (by decide)
  have h3 := pr_fin (e := 1862 + (k + 1)) (by omega)
  obtain ⟨_, hs, _⟩ := sq_ok h
  obtain ⟨r, R, hm⟩ := add_pos (a := a) (b := sqN x) (by omega) (by omega)
  have hr : r ≤ pr (1862 + (k + 1)) := R.up _ (by
    have k1 := uv_le ha
    have k2 := uv_le (Nat.le_trans hs (pr_le (show 1862 ≤ 1862 + k by omega)))
    rw [uv_pr] at k1 k2 ⊢
    have e : 52 + (1862 + (k + 1)) = 52 + (1862 + k) + 1 := by omega
    rw [e, Nat.pow_succ 2, Nat.mul_one]
    omega)
  refine ⟨r, ?_, hr, R⟩
  unfold asqC
  rw [cls_sq h]
  show Ieee.double.add a (sqN x) = some r
  rw [hm, Nat.min_eq_left (by omega)]

theorem tot_ok {c r t : Int} {xs : List Nat} (hck : checkB c xs r t = true) (hok : okF xs) : ∀ k, k ≤ 100 → ∃ T, totC c xs r t k = some T ∧ T ≤ pr (1862 + k)
  | 0, _ => ⟨0, rfl, Nat.zero_le _⟩
  | k + 1, hk => by
    obtain ⟨T, h1, h2⟩ := tot_ok hck hok k (by omega)
    obtain ⟨z, h3, h4, _⟩ := asq_ok (by omega) h2 (ent_ok hck hok k c).1
    refine ⟨z, ?_, h4⟩
    simp only [totC]
    rw [h1]
    exact h3

theorem fw_all : ∀ k : Nat, k < 201 → (decide (0 < k → floatOfInt .f64 (k : Int) < 9218868437227405312 ∧ 0 < floatOfInt .f64 (k : Int) ∧ uv (floatOfInt .f64 (k : Int)) = k * uv 4607182418800017408)) = true := by decide +kernel
theorem fw_ok (k : Nat) (h : k < 201) (h0 : 0 < k) : floatOfInt .f64 (k : Int) < 9218868437227405312 ∧ 0 < floatOfInt .f64 (k : Int) ∧ uv (floatOfInt .f64 (k : Int)) = k * uv 4607182418800017408 := of_decide_eq_true (fw_all k h) h0

/-- What Of tells. -/
def restN (c : Int) (xs : List Nat) (r t : Int) : Nat := sqN (getN c xs r t c c)
def totN (c : Int) (xs : List Nat) (r t : Int) : Nat := (totC c xs r t (c.toNat + 1)).getD 0
def varN (c : Int) (xs : List Nat) (r t : Int) : Nat := (Ieee.double.div (restN c xs r t) (floatOfInt .f64 (r - c))).getD 0
def fitN (c : Int) (xs : List Nat) (r t : Int) : Nat := fitW (restN c xs r t) (totN c xs r t)
def spN (c : Int) (xs : List Nat) (r t : Int) : Nat := (Ieee.double.sqrt (varN c xs r t)).getD 0

theorem sub_one {q : Nat} (h : q ≤ 4607182418800017408) : ∃ z, Ieee.double.sub 4607182418800017408 q = some z ∧ z ≤ 4607182418800017408 := by
  have hi := inf_eq
  obtain ⟨r, R, hm⟩ := sub_near (x := 4607182418800017408) (y := q) (by omega) (by omega)
  rw [sv_nat (by decide), sv_nat (by omega)] at R hm
  have hle := uv_le h
  have e : (((uv 4607182418800017408 : Nat) : Int) - (uv q : Nat)).natAbs = uv 4607182418800017408 - uv q := by omega
  rw [e] at R
  have hr : r ≤ 4607182418800017408 := R.up _ (by omega)
  refine ⟨r, ?_, hr⟩
  rw [hm, Nat.min_eq_left (by omega)]
  have s1 : sgn 4607182418800017408 = false := by decide
  rw [s1]
  by_cases h0 : ((uv 4607182418800017408 : Nat) : Int) - (uv q : Nat) = 0
  · rw [if_pos h0]; rfl
  · rw [if_neg h0, decide_eq_false (by omega)]; rfl

/-- A root of a word without a sign is told. -/
theorem root_some {x : Nat} (h : x ≤ 9218868437227405312) : ∃ z, Ieee.double.sqrt x = some z ∧ z < 18446744073709551616 := by
  have hi := inf_eq
  unfold Format.sqrt
  rcases Nat.lt_or_ge x 9218868437227405312 with h1 | h1
  · obtain ⟨m, a, h2, h3⟩ := read_num (x := x) (by omega)
    rw [h2, Nat.div_eq_of_lt (by omega)]
    unfold Datum.root
    by_cases hm : m = 0
    · simp only [hm, if_true]
      exact ⟨_, rfl, (write_ok rfl).1⟩
    · simp only [hm, if_false]
      exact ⟨_, rfl, (write_ok rfl).1⟩
  · rw [read_inf (by omega), Nat.div_eq_of_lt (by omega)]
    exact ⟨_, rfl, (write_ok rfl).1⟩

structure StOK (c : Int) (xs : List Nat) (r t : Int) : Prop where
  sq : Ieee.double.mul (getN c xs r t c c) (getN c xs r t c c) = some (restN c xs r t)
  rest : asqC (some 0) (cls (getN c xs r t c c)) = some (restN c xs r t)
  restF : restN c xs r t < 9218868437227405312
  tot : totC c xs r t (c.toNat + 1) = some (totN c xs r t)
  totF : totN c xs r t < 9218868437227405312
  le : restN c xs r t ≤ totN c xs r t
  div : Ieee.double.div (restN c xs r t) (floatOfInt .f64 (r - c)) = some (varN c xs r t)
  varL : varN c xs r t ≤ restN c xs r t
  varE : r - c = 1 → varN c xs r t = restN c xs r t
  fit0 : totN c xs r t = 0 → fitN c xs r t = 0
  fit1 : 0 < totN c xs r t → ∃ q, Ieee.double.div (restN c xs r t) (totN c xs r t) = some q ∧ Ieee.double.sub 4607182418800017408 q = some (fitN c xs r t)
  fitL : fitN c xs r t ≤ 4607182418800017408
  sp : Ieee.double.sqrt (varN c xs r t) = some (spN c xs r t)
  spL : spN c xs r t < 18446744073709551616

theorem st_ok {c r t : Int} {xs : List Nat} (hck : checkB c xs r t = true) (hok : okF xs) (hr : c < r) : StOK c xs r t := by
  have hi := inf_eq
  have one := uv_one
  obtain ⟨n, rfl, hn1, hn6, hlen⟩ := check_len hck
  have htt := check_turns hck
  have hrho := (ent_ok hck hok n n).1
  obtain ⟨s1, s2, s3⟩ := sq_ok hrho
  have p1 := pr_fin (e := 1862) (by decide)
  have hrest : restN n xs r t = sqN (getN n xs r t n n) := rfl
  obtain ⟨T, t1, t2⟩ := tot_ok hck hok n (by omega)
  obtain ⟨Z, z1, z2, z3⟩ := asq_ok (by omega) t2 hrho
  have ht : totC n xs r t (n + 1) = some Z := by
    simp only [totC]
    rw [t1]
    exact z1
  have p2 := pr_fin (e := 1862 + (n + 1)) (by omega)
  have hT : totN n xs r t = Z := by
    unfold totN
    rw [Int.toNat_natCast, ht]
    rfl
  obtain ⟨R0, q1, _, q3⟩ := asq_ok (a := 0) (k := 0) (by omega) (Nat.zero_le _) hrho
  have hR0 : R0 = sqN (getN n xs r t n n) := q3.eq (by rw [uv_zero]; omega)
  have hle : sqN (getN n xs r t n n) ≤ Z := z3.dn _ (by omega)
  obtain ⟨k, hk⟩ : ∃ k : Nat, r - n = (k : Int) := ⟨(r - n).toNat, by omega⟩
  obtain ⟨f1, f2, f3⟩ := fw_ok k (by omega) (by omega)
  obtain ⟨v, v1, v2, v3⟩ := div_pos (a := sqN (getN n xs r t n n)) (b := floatOfInt .f64 (k : Int)) (by omega) f2 (by omega)
  rw [← one] at v2 v3
  have hv : v ≤ sqN (getN n xs r t n n) := v2 _ (by
    rw [f3]
    refine Nat.mul_le_mul_left _ ?_
    exact Nat.le_mul_of_pos_left _ (by omega))
  have hV : varN n xs r t = v := by
    unfold varN
    rw [hk, hrest, v1, Nat.min_eq_left (by omega)]
    rfl
  obtain ⟨sp, sp1, sp2⟩ := root_some (x := v) (by omega)
  have hfit : 0 < Z → ∃ q, Ieee.double.div (sqN (getN n xs r t n n)) Z = some q ∧ q ≤ 4607182418800017408 := by
    intro h0
    obtain ⟨q, d1, d2, _⟩ := div_pos (a := sqN (getN n xs r t n n)) (b := Z) (by omega) h0 (by omega)
    have hq : q ≤ 4607182418800017408 := d2 _ (by
      rw [Nat.mul_comm (uv 4607182418800017408), ← one]
      exact Nat.mul_le_mul_right _ (uv_le hle))
    exact ⟨q, by rw [d1, Nat.min_eq_left (by omega)], hq⟩
  refine ⟨s1, by rw [q1, hR0]; rfl, by rw [hrest]; omega, by rw [Int.toNat_natCast, ht, hT], by rw [hT]; omega, by rw [hrest, hT]; exact hle, ?_, ?_, ?_, ?_, ?_, ?_, ?_, ?_⟩
  · rw [hk, hrest, v1, hV, Nat.min_eq_left (by omega)]
  · rw [hV, hrest]; exact hv
  · intro h1
    rw [hV, hrest]
    have k1 : k = 1 := by omega
    subst k1
    refine Nat.le_antisymm hv (v3 _ ?_)
    rw [f3, Nat.one_mul]
    exact Nat.le_refl _
  · intro h0
    unfold fitN fitW
    rw [if_pos h0]
  · intro h0
    rw [hT] at h0
    obtain ⟨q, d1, d2⟩ := hfit h0
    obtain ⟨z, u1, u2⟩ := sub_one d2
    refine ⟨q, by rw [hrest, hT]; exact d1, ?_⟩
    unfold fitN fitW
    rw [hrest, hT, if_neg (by omega), d1, u1]
    simp only [Option.bind_some]
    rw [u1]
    rfl
  · unfold fitN fitW
    rw [hT, hrest]
    by_cases h0 : Z = 0
    · rw [if_pos h0]; exact Nat.zero_le _
    · obtain ⟨q, d1, d2⟩ := hfit (by omega)
      obtain ⟨z, u1, u2⟩ := sub_one d2
      rw [if_neg h0, d1]
      simp only [Option.bind_some]
      rw [u1]
      exact u2
  · unfold spN
    rw [hV, sp1]
    rfl
  · unfold spN
    rw [hV, sp1]
    exact sp2
end Go.Proofs.YtbkmpoeaindnaaaDoor
