/- Why what is faded is near: the numbers. -/
import Derived.Test.YtdccjlaneobldaaDoorDFact
import Derived.Test.YtdccjlaneobldaaDoorDyTwo
namespace Go.Proofs.YtdccjlaneobldaaDoor.N
open Go.RowKit Go.Shelf Rnd

theorem pw_def (k : Nat) : pw k = 2 ^ k := rfl
theorem two_pw (k m : Nat) (h : k + 1 = m) : 2 * pw k = pw m := by
  subst h
  rw [pw_def, pw_def, Nat.pow_succ, Nat.mul_comm]
theorem Dls.unit {W : World} {v : Value} {n : Nat} {Z : Nat → Int} {u u' : Int} (h : Dls W v n Z u) (hu : u' ≤ u) : Dls W v n (fun q => Z q * ((2 ^ (u - u').toNat : Nat) : Int)) u' := by
  obtain ⟨h0, b, cap, e, h1, h2, h3⟩ := h
  refine ⟨h0, b, cap, e, h1, h2, fun j hj => ?_⟩
  obtain ⟨neg, nv, ex, c0, c1, c2, d⟩ := h3 j hj
  exact ⟨neg, nv, ex, c0, c1, c2, d.unit hu⟩
theorem gsum_sum (L : Nat → Nat → Nat) (c : Int) (i j : Nat) : ∀ k, gsum L k i j * c * c = sumTo (fun r => (sv (L r i) * c) * (sv (L r j) * c)) k
  | 0 => by simp [gsum, sumTo]
  | k + 1 => by
    have ih := gsum_sum L c i j k
    simp only [gsum, sumTo]
    rw [← ih]
    grind
theorem gsum_sq (L : Nat → Nat → Nat) (c : Int) (i k : Nat) : 0 ≤ gsum L k i i * c * c := by
  rw [gsum_sum]
  exact sum_sq_nonneg (fun r => sv (L r i) * c) k

theorem err_words {b x : Nat} (hx : x % 2 ^ 63 < Ieee.double.infRung) (hb : b ≤ 4607182418800017408) :
    pw 54 * (uv (fadeW b x % 2 ^ 63) * pw 1074) ≤ pw 54 * (uv (x % 2 ^ 63) * uv b) + 2 * (uv (x % 2 ^ 63) * uv b) + pw 53 * pw 1074 ∧
    pw 54 * (uv (x % 2 ^ 63) * uv b) ≤ pw 54 * (uv (fadeW b x % 2 ^ 63) * pw 1074) + 2 * (uv (x % 2 ^ 63) * uv b) + pw 53 * pw 1074 := by
  have h := fadeW_err hx hb
  rw [← pw_def 54, ← pw_def 1074, ← pw_def 53] at h
  exact h
theorem near_apart {P Q E : Nat} (h1 : 18014398509481984 * P ≤ 18014398509481984 * Q + 2 * Q + 2 * E) (h2 : 18014398509481984 * Q ≤ 18014398509481984 * P + 2 * Q + 2 * E) : 2 * 4503599627370496 * ((P : Int) - (Q : Int)).natAbs ≤ Q + E := by omega
theorem sv_zero : sv 0 = 0 := by decide
theorem sv_pos {b : Nat} (h : b ≤ 4607182418800017408) : sv b = (uv b : Int) := by
  unfold sv
  rw [Nat.mod_eq_of_lt (Nat.lt_of_le_of_lt h (by decide)), if_neg]
  rw [Nat.div_eq_of_lt (Nat.lt_of_le_of_lt h (by decide))]
  decide
theorem beta_le {b : Nat} (h : b ≤ 4607182418800017408) : (sv b).natAbs ≤ pw 1074 := by
  rw [sv_pos h, Int.natAbs_natCast]
  have := uv_le h
  rw [uv_one] at this
  rw [pw_def]
  exact this
theorem abs_flip (P Q : Int) : (-P - -Q).natAbs = (P - Q).natAbs := by omega
theorem word_err {b x : Nat} (h64 : x < 2 ^ 64) (hx : x % 2 ^ 63 < Ieee.double.infRung) (hb : b ≤ 4607182418800017408) :
    2 * pw 52 * (sv (fadeW b x) * (pw 1074 : Int) - sv x * sv b).natAbs ≤ (sv x * sv b).natAbs + pw 1126 := by
  obtain ⟨e1, e2⟩ := err_words hx hb
  obtain ⟨f1, f2, f3⟩ := fadeW_is h64 hx hb
  have p54 : pw 54 = 18014398509481984 := by decide
  have p52 : pw 52 = 4503599627370496 := by decide
  have p1 : pw 53 * pw 1074 = 2 * pw 1126 := (pow_mul' 53 1074 1127 (by decide)).trans (two_pw 1126 1127 rfl).symm
  rw [p54, p1] at e1 e2
  have key := near_apart e1 e2
  have hq : (sv x * sv b).natAbs = uv (x % 2 ^ 63) * uv b := by rw [Int.natAbs_mul, sv_abs, sv_pos hb, Int.natAbs_natCast]
  rw [hq, sv_pos hb, p52]
  have hd : (sv (fadeW b x) * (pw 1074 : Int) - sv x * (uv b : Int)).natAbs = (((uv (fadeW b x % 2 ^ 63) * pw 1074 : Nat) : Int) - ((uv (x % 2 ^ 63) * uv b : Nat) : Int)).natAbs := by
    rw [Int.natCast_mul, Int.natCast_mul]
    by_cases c : 2 ^ 63 ≤ x
    · have c2 := f3.2 c
      have s1 : sv x = -(uv (x % 2 ^ 63) : Int) := by unfold sv; rw [if_pos (by omega)]
      have s2 : sv (fadeW b x) = -(uv (fadeW b x % 2 ^ 63) : Int) := by unfold sv; rw [if_pos (by omega)]
      rw [s1, s2, Int.neg_mul, Int.neg_mul]
      exact abs_flip _ _
    · have c2 : ¬ 2 ^ 63 ≤ fadeW b x := fun h => c (f3.1 h)
      have s1 : sv x = (uv (x % 2 ^ 63) : Int) := by unfold sv; rw [if_neg (by omega)]
      have s2 : sv (fadeW b x) = (uv (fadeW b x % 2 ^ 63) : Int) := by unfold sv; rw [if_neg (by omega)]
      rw [s1, s2]
  rw [hd]
  exact key
theorem ent_err {n : Nat} {xs : List Nat} {b r i : Nat} (h1 : okF xs) (h2 : xs.all leH = true) (hb : b ≤ 4607182418800017408) :
    2 * pw 52 * (sv (ent n (fadeL b xs) r i) * (pw 1074 : Int) - sv (ent n xs r i) * sv b).natAbs ≤ (sv (ent n xs r i) * sv b).natAbs + pw 1126 := by
  have hz : 2 * pw 52 * (sv 0 * (pw 1074 : Int) - sv 0 * sv b).natAbs ≤ (sv 0 * sv b).natAbs + pw 1126 := by
    rw [sv_zero, Int.zero_mul, Int.zero_mul]
    exact Nat.le_trans (Nat.le_of_eq (Nat.mul_zero _)) (Nat.zero_le _)
  by_cases c : r ≤ i
  · by_cases hq : place n r + (i - r) < xs.length
    · have e1 : ent n xs r i = xs[place n r + (i - r)]?.getD 0 := if_pos c
      have e2 : ent n (fadeL b xs) r i = fadeW b (xs[place n r + (i - r)]?.getD 0) := by
        unfold ent fadeL
        rw [if_pos c]
        simp [hq]
      rw [e1, e2]
      have ok := ent_okE (n := n) (i := r) (j := i) h1 h2
      rw [e1] at ok
      exact word_err ok.1 ok.fin hb
    · have e1 : ent n xs r i = 0 := by unfold ent; rw [if_pos c, List.getElem?_eq_none (by omega)]; rfl
      have e2 : ent n (fadeL b xs) r i = 0 := by unfold ent fadeL; rw [if_pos c, List.getElem?_eq_none (by simp; omega)]; rfl
      rw [e1, e2]
      exact hz
  · have e1 : ent n xs r i = 0 := if_neg c
    have e2 : ent n (fadeL b xs) r i = 0 := if_neg c
    rw [e1, e2]
    exact hz

/-- The numbers of both lists, in units of 2^-4296. -/
def netZ (n : Nat) (xs : List Nat) (b q : Nat) : Int := pairZ n (gsum (ent n xs) (n + 1)) q * sv b * sv b
def gotZ (n : Nat) (ys : List Nat) (q : Nat) : Int := pairZ n (gsum (ent n ys) (n + 1)) q * (pw 1074 : Int) * (pw 1074 : Int)
theorem net_at {n i j : Nat} (xs : List Nat) (b : Nat) (h6 : n ≤ 6) (hij : i ≤ j) (hj : j ≤ n) : netZ n xs b (place n i + (j - i)) = gsum (ent n xs) (n + 1) i j * sv b * sv b := by
  unfold netZ
  rw [pairZ_at _ h6 hij hj]
theorem got_at {n i j : Nat} (ys : List Nat) (h6 : n ≤ 6) (hij : i ≤ j) (hj : j ≤ n) : gotZ n ys (place n i + (j - i)) = gsum (ent n ys) (n + 1) i j * (pw 1074 : Int) * (pw 1074 : Int) := by
  unfold gotZ
  rw [pairZ_at _ h6 hij hj]
theorem net_diag {n i : Nat} (xs : List Nat) (b : Nat) (h6 : n ≤ 6) (hi : i ≤ n) : netZ n xs b (place n i) = gsum (ent n xs) (n + 1) i i * sv b * sv b := by
  have h := net_at xs b h6 (Nat.le_refl i) hi
  rwa [Nat.sub_self] at h
theorem near_all {n : Nat} {xs : List Nat} {b i j a d : Nat} (h6 : n ≤ 6) (h1 : okF xs) (h2 : xs.all leH = true) (hb : b ≤ 4607182418800017408) (hij : i ≤ j) (hj : j ≤ n)
    (ha : (netZ n xs b (place n i)).natAbs * 2 ^ 128 ≤ a * a) (hd : (netZ n xs b (place n j)).natAbs * 2 ^ 128 ≤ d * d) :
    (gotZ n (fadeL b xs) (place n i + (j - i)) - netZ n xs b (place n i + (j - i))).natAbs * pw 181 ≤ bnd a d := by
  rw [got_at _ h6 hij hj, net_at _ _ h6 hij hj, gsum_sum, gsum_sum]
  have p128 : pw 64 * pw 64 = 2 ^ 128 := by decide
  have norm : ∀ {i a : Nat}, i ≤ n → (netZ n xs b (place n i)).natAbs * 2 ^ 128 ≤ a * a → ((pw 64 * pw 64 : Nat) : Int) * sumTo (fun r => (sv (ent n xs r i) * sv b) * (sv (ent n xs r i) * sv b)) (n + 1) ≤ (a * a : Nat) := by
    intro i a hi h
    rw [net_diag _ _ h6 hi, gsum_sum] at h
    have hp := sum_sq_nonneg (fun r => sv (ent n xs r i) * sv b) (n + 1)
    rw [p128]
    generalize sumTo (fun r => (sv (ent n xs r i) * sv b) * (sv (ent n xs r i) * sv b)) (n + 1) = S at *
    have : ((S.natAbs * 2 ^ 128 : Nat) : Int) ≤ ((a * a : Nat) : Int) := Int.ofNat_le.2 h
    rw [Int.natCast_mul, Int.natAbs_of_nonneg hp, Int.mul_comm] at this
    exact this
  have h := fade_bound (n := n + 1) (by omega) (fun r _ => ent_err (n := n) (r := r) (i := i) h1 h2 hb) (fun r _ => ent_err (n := n) (r := r) (i := j) h1 h2 hb) (norm (by omega) ha) (norm hj hd)
  rw [Nat.mul_comm (pw 181)] at h
  refine Nat.le_trans h (Nat.le_of_eq ?_)
  unfold bnd
  generalize pw 2337 = A
  generalize pw 1205 * (a + d) = B
  omega

theorem net_le {n : Nat} {xs : List Nat} {b : Nat} (h6 : n ≤ 6) (h1 : okF xs) (h2 : xs.all leH = true) (hb : b ≤ 4607182418800017408) (q : Nat) : (netZ n xs b q).natAbs ≤ pw 5139 := by
  unfold netZ pairZ
  rw [Int.natAbs_mul, Int.natAbs_mul]
  have g := gsum_small (L := ent n xs) (fun r j => ent_okE h1 h2) (k := n + 1) (by omega) (decI n q) (decJ n q)
  have b1 := beta_le hb
  have m1 := Nat.mul_le_mul g b1
  rw [pow_mul' 2991 1074 4065 (by decide)] at m1
  have m2 := Nat.mul_le_mul m1 b1
  rw [pow_mul' 4065 1074 5139 (by decide)] at m2
  exact m2
theorem net_mid {n : Nat} {xs : List Nat} {b : Nat} (h6 : n ≤ 6) (h1 : okF xs) (h2 : xs.all leH = true) (hb : b ≤ 4607182418800017408) (q : Nat) : (pairZ n (gsum (ent n xs) (n + 1)) q).natAbs ≤ pw 2991 ∧ (pairZ n (gsum (ent n xs) (n + 1)) q * sv b).natAbs ≤ pw 4065 := by
  have g := gsum_small (L := ent n xs) (fun r j => ent_okE h1 h2) (k := n + 1) (by omega) (decI n q) (decJ n q)
  refine ⟨g, ?_⟩
  unfold pairZ
  rw [Int.natAbs_mul]
  have m1 := Nat.mul_le_mul g (beta_le hb)
  rw [pow_mul' 2991 1074 4065 (by decide)] at m1
  exact m1
theorem got_le {n : Nat} {ys : List Nat} (h6 : n ≤ 6) (h1 : okF ys) (h2 : ys.all leH = true) (q : Nat) : (gotZ n ys q).natAbs ≤ pw 5139 := by
  unfold gotZ pairZ
  rw [Int.natAbs_mul, Int.natAbs_mul, Int.natAbs_natCast]
  have g := gsum_small (L := ent n ys) (fun r j => ent_okE h1 h2) (k := n + 1) (by omega) (decI n q) (decJ n q)
  have m1 := Nat.mul_le_mul_right (pw 1074) g
  rw [pow_mul' 2991 1074 4065 (by decide)] at m1
  have m2 := Nat.mul_le_mul_right (pw 1074) m1
  rw [pow_mul' 4065 1074 5139 (by decide)] at m2
  exact m2
theorem apart_lt {G N : Int} (hG : G.natAbs ≤ pw 5139) (hN : N.natAbs ≤ pw 5139) : (G - N).natAbs * pw 181 < BIG := by
  have h : (G - N).natAbs ≤ pw 5140 := by
    have e : pw 5140 = 2 * pw 5139 := (two_pw 5139 5140 rfl).symm
    rw [e]
    generalize pw 5139 = A at *
    omega
  have m := Nat.mul_le_mul_right (pw 181) h
  rw [pow_mul' 5140 181 5321 (by decide)] at m
  exact Nat.lt_of_le_of_lt m (pw_big (by decide))
theorem got_unit {W : World} {v : Value} {n : Nat} {ys : List Nat} (h : Dls W v (szN n) (pairZ n (gsum (ent n ys) (n + 1))) (-2148)) : Dls W v (szN n) (gotZ n ys) (-4296) := by
  refine (h.unit (u' := -4296) (by decide)).congr fun q _ => ?_
  rw [pow_pw (k := -2148) (g := -4296) (n := 2148) (by decide), ← pow_mul' 1074 1074 2148 (by decide), Int.natCast_mul]
  unfold gotZ
  rw [Int.mul_assoc]
end Go.Proofs.YtdccjlaneobldaaDoor.N
