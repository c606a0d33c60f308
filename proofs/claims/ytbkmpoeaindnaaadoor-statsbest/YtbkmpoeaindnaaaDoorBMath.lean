/- Why no answers miss by less than Rest, and why answers of zeros miss by Total. -/
import Derived.Test.YtbkmpoeaindnaaaDoorMissAll
namespace Go.Proofs.YtbkmpoeaindnaaaDoor
open Go.RowKit Go.Shelf Rnd Ieee

/-- A word without a sign that is a number or infinity, read. -/
theorem read_nn {x : Nat} (h : x ≤ 9218868437227405312) : (∃ m p, Ieee.double.read x = .number false m p) ∨ (x = 9218868437227405312 ∧ Ieee.double.read x = .infinity false) := by
  have hi := inf_eq
  rcases Nat.lt_or_ge x 9218868437227405312 with h1 | h1
  · obtain ⟨m, a, h2, _⟩ := read_num (x := x) (by omega)
    rw [Nat.div_eq_of_lt (by omega)] at h2
    exact .inl ⟨m, _, h2⟩
  · refine .inr ⟨by omega, ?_⟩
    rw [read_inf (by omega), Nat.div_eq_of_lt (by omega)]
    rfl
theorem write_nn (m : Nat) (p : Int) : Ieee.double.write (.number false m p) ≤ 9218868437227405312 := by
  have hi := inf_eq
  show Ieee.double.nearest false m p ≤ _
  rw [nearest_eq]
  show min _ _ ≤ _
  omega
theorem nn_add {a b z : Nat} (ha : a ≤ 9218868437227405312) (hb : b ≤ 9218868437227405312) (h : floatBits .add .f64 a b = some z) : z ≤ 9218868437227405312 := by
  have hi := inf_eq
  rcases Nat.lt_or_ge a 9218868437227405312 with a1 | a1
  · rcases Nat.lt_or_ge b 9218868437227405312 with b1 | b1
    · obtain ⟨r, _, hm⟩ := add_pos (a := a) (b := b) (by omega) (by omega)
      have e := (show Ieee.double.add a b = some z from h).symm.trans hm
      have := Option.some.inj e
      omega
    · rcases read_nn ha with ⟨m, p, ra⟩ | ⟨_, ra⟩
      · rcases read_nn hb with ⟨m', p', rb⟩ | ⟨_, rb⟩
        · rw [read_inf (by omega)] at rb; cases rb
        · have e := (show Ieee.double.add a b = some z from h)
          unfold Format.add at e
          rw [ra, rb] at e
          have := Option.some.inj e
          have w : Ieee.double.write (.infinity false) = 9218868437227405312 := by decide
          rw [← this]
          exact Nat.le_of_eq w
      · omega
  · rcases read_nn ha with ⟨m, p, ra⟩ | ⟨_, ra⟩
    · rw [read_inf (by omega)] at ra; cases ra
    · have e := (show Ieee.double.add a b = some z from h)
      unfold Format.add at e
      have w : Ieee.double.write (.infinity false) = 9218868437227405312 := by decide
      rcases read_nn hb with ⟨m', p', rb⟩ | ⟨_, rb⟩
      · rw [ra, rb] at e
        have := Option.some.inj e
        rw [← this]
        exact Nat.le_of_eq w
      · rw [ra, rb] at e
        have := Option.some.inj e
        rw [← this]
        exact Nat.le_of_eq w
theorem nn_sq {y q : Nat} (h : floatBits .mul .f64 y y = some q) : q ≤ 9218868437227405312 := by
  have hi := inf_eq
  rcases Nat.lt_trichotomy (y % 2 ^ 63) Ieee.double.infRung with h1 | h1 | h1
  · obtain ⟨r, _, hm⟩ := sq_near h1
    have e := (show Ieee.double.mul y y = some q from h).symm.trans hm
    have := Option.some.inj e
    omega
  · have e := (show Ieee.double.mul y y = some q from h)
    unfold Format.mul at e
    rw [read_inf h1] at e
    unfold Datum.product at e
    have w : Ieee.double.write (.infinity false) = 9218868437227405312 := by decide
    simp only [Bool.xor_self, Option.map_some] at e
    rw [w] at e
    have := Option.some.inj e
    omega
  · rw [fb_nan (.inl (by omega))] at h
    cases h
theorem nn_asq {a x : Option Nat} {z : Nat} (ha : ∀ y, a = some y → y ≤ 9218868437227405312) (h : asqC a x = some z) : z ≤ 9218868437227405312 := by
  unfold asqC opC at h
  simp only [Option.bind_eq_some_iff] at h
  obtain ⟨y, hy, q, ⟨u, hu, v, hv, hq⟩, hz⟩ := h
  have : u = v := by rw [hu] at hv; exact Option.some.inj hv
  subst this
  exact nn_add (ha y hy) (nn_sq hq) hz
theorem nn_sum {c : Int} {n : Nat} {xs : List Nat} {r t : Int} {ls : List Nat} : ∀ (k z : Nat), sumC c n xs r t ls k = some z → z ≤ 9218868437227405312
  | 0, z, h => by simp only [sumC, Option.some.injEq] at h; omega
  | k + 1, z, h => by
    simp only [sumC] at h
    exact nn_asq (fun y hy => nn_sum k y hy) h

/-- Whatever the answers are: what they miss by is not below Rest. -/
theorem miss_ge {c r t : Int} {xs ls : List Nat} (hok : okF xs) (hE : stE c xs r t = 0) (hM : miE c xs r t ls = 0) : restN c xs r t ≤ miV c xs r t ls ∧ miV c xs r t ls < 9218868437227405312 := by
  have hi := inf_eq
  obtain ⟨hck, hr⟩ := stE_zero hE
  have S := st_ok hck hok hr
  obtain ⟨_, _, hf⟩ := miE_zero hM
  cases ho : missC c c.toNat xs r t ls with
  | none => rw [ho] at hf; cases hf
  | some z =>
    have hV : miV c xs r t ls = z := by
      unfold miV
      rw [hM, if_pos rfl, ho]
      rfl
    rw [hV]
    rw [ho] at hf
    have hk : kindN z ≤ 1 := of_decide_eq_true hf
    have hfin := (kind1 z).1 hk
    have ho' := ho
    unfold missC at ho'
    have hz := nn_asq (fun y hy => nn_sum _ y hy) ho'
    have hz1 : z < 9218868437227405312 := by omega
    refine ⟨?_, hz1⟩
    unfold asqC at ho'
    rw [cls_sq (ent_ok hck hok c c).1] at ho'
    unfold opC at ho'
    simp only [Option.bind_some, Option.bind_eq_some_iff] at ho'
    obtain ⟨s, hs, ha⟩ := ho'
    have hs1 := nn_sum _ _ hs
    have hrest : restN c xs r t = sqN (getN c xs r t c c) := rfl
    rw [← hrest] at ha
    rcases Nat.lt_or_ge s 9218868437227405312 with s1 | s1
    · obtain ⟨q, R, hm⟩ := add_pos (a := s) (b := restN c xs r t) (by omega) (by have := S.restF; omega)
      have e := Option.some.inj ((show Ieee.double.add s (restN c xs r t) = some z from ha).symm.trans hm)
      have hq : restN c xs r t ≤ q := R.dn _ (by omega)
      have := S.restF
      omega
    · exfalso
      have e := (show Ieee.double.add s (restN c xs r t) = some z from ha)
      unfold Format.add at e
      rcases read_nn hs1 with ⟨m, p, ra⟩ | ⟨_, ra⟩
      · rw [read_inf (by omega)] at ra; cases ra
      · rcases read_nn (Nat.le_of_lt S.restF) with ⟨m', p', rb⟩ | ⟨h', _⟩
        · rw [ra, rb] at e
          have e2 := Option.some.inj e
          have w : Ieee.double.write (.infinity false) = 9218868437227405312 := by decide
          rw [w] at e2
          omega
        · have := S.restF
          omega

/-- A product with +0, and what is left when it is taken away. -/
theorem left_zero {g d : Nat} (hg : g % 9223372036854775808 < 9218868437227405312) (hd : d % 9223372036854775808 < 9218868437227405312) : ∃ e, opC .sub (some d) (opC .mul (cls g) (cls 0)) = some e ∧ e % 9223372036854775808 = d % 9223372036854775808 := by
  have hi := inf_eq
  obtain ⟨r, h1, h2, _⟩ := mul_near (x := g) (y := 0) (by omega) (by omega)
  have r0 : r = 0 := by
    have := h2 0 (by
      have e : (0 : Nat) % 2 ^ 63 = 0 := by decide
      rw [e, uv_zero, Nat.mul_zero]
      exact Nat.zero_le _)
    omega
  rw [r0, Nat.min_eq_left (Nat.zero_le _)] at h1
  generalize ((g / 2 ^ 63 % 2 == 1) ^^ (0 / 2 ^ 63 % 2 == 1)) = s at h1
  obtain ⟨w1, w2, _⟩ := word_sign (neg := s) (r := 0) (by decide)
  obtain ⟨q, R, hm⟩ := sub_near (x := d) (y := Ieee.double.word s 0) (by omega) (by rw [w2]; omega)
  have sv0 : sv (Ieee.double.word s 0) = 0 := by
    have := sv_abs (Ieee.double.word s 0)
    rw [w2, uv_zero] at this
    omega
  rw [sv0] at R hm
  have e : (sv d - 0).natAbs = uv (d % 2 ^ 63) * 1 := by rw [Int.sub_zero, sv_abs, Nat.mul_one]
  have hq := R.eq e
  have hz : Ieee.double.mul g 0 = some (Ieee.double.word s 0) := h1
  have hc : opC .sub (some d) (opC .mul (cls g) (cls 0)) = Ieee.double.sub d (Ieee.double.word s 0) := by
    rw [cls_num (x := g) (by omega), cls_num (x := 0) (by decide)]
    show opC .sub (some d) (Ieee.double.mul g 0) = _
    rw [hz]
    rfl
  rw [hc, hm]
  refine ⟨_, rfl, ?_⟩
  have hmin : min q Ieee.double.infRung = d % 2 ^ 63 := by omega
  rw [hmin]
  exact (word_sign (by omega)).2.1
theorem left_zeros {n i : Nat} {xs : List Nat} {r t : Int} (hck : checkB n xs r t = true) (hok : okF xs) : ∀ m, i + m ≤ n → ∃ d, leftC n xs r t (List.replicate n 0) i m = some d ∧ d % 9223372036854775808 = getN n xs r t i n % 9223372036854775808
  | 0, _ => by
    have h := (ent_ok hck hok i n).1
    have p := pr_fin (e := 1442) (by decide)
    exact ⟨_, cls_num (by omega), rfl⟩
  | m + 1, hm => by
    obtain ⟨d, h1, h2⟩ := left_zeros (i := i) hck hok m (by omega)
    have p := pr_fin (e := 1442) (by decide)
    have g1 := (ent_ok hck hok i n).1
    have g2 := (ent_ok hck hok i ((i + m : Nat) : Int)).1
    obtain ⟨e, e1, e2⟩ := left_zero (g := getN n xs r t i ((i + m : Nat) : Int)) (d := d) (by omega) (by omega)
    refine ⟨e, ?_, by omega⟩
    simp only [leftC]
    have hz : (List.replicate n 0)[i + m]?.getD 0 = 0 := by
      rw [List.getElem?_replicate]
      split <;> rfl
    rw [h1, hz]
    exact e1
theorem asq_size {a : Option Nat} {d x : Nat} (hx : x % 9223372036854775808 < 9218868437227405312) (h : d % 9223372036854775808 = x % 9223372036854775808) : asqC a (some d) = asqC a (cls x) := by
  rw [cls_num (by omega)]
  unfold asqC
  have e : opC .mul (some d) (some d) = opC .mul (some x) (some x) := sq_size h
  rw [e]
theorem sum_zeros {n : Nat} {xs : List Nat} {r t : Int} (hck : checkB n xs r t = true) (hok : okF xs) : ∀ k, k ≤ n → sumC n n xs r t (List.replicate n 0) k = totC n xs r t k
  | 0, _ => rfl
  | k + 1, hk => by
    obtain ⟨d, h1, h2⟩ := left_zeros (i := k) hck hok (n - k) (by omega)
    have g1 := (ent_ok hck hok k n).1
    have p := pr_fin (e := 1442) (by decide)
    simp only [sumC, totC]
    rw [sum_zeros hck hok k (by omega), h1]
    exact asq_size (by omega) h2
/-- Answers of zeros miss by Total. -/
theorem miss_zeros {n : Nat} {xs : List Nat} {r t : Int} (hok : okF xs) (hE : stE n xs r t = 0) : miE n xs r t (List.replicate n 0) = 0 ∧ miV n xs r t (List.replicate n 0) = totN n xs r t := by
  obtain ⟨hck, hr⟩ := stE_zero hE
  have S := st_ok hck hok hr
  have h1 : missC n n xs r t (List.replicate n 0) = some (totN n xs r t) := by
    unfold missC
    rw [sum_zeros hck hok n (Nat.le_refl _)]
    have h := S.tot
    rw [Int.toNat_natCast] at h
    exact h
  have hf := S.totF
  refine mi_fin hck (by simp) (z := totN n xs r t) ?_ ((kind1 _).2 (by omega))
  rw [Int.toNat_natCast, h1]
  exact cls_num (by omega)
end Go.Proofs.YtbkmpoeaindnaaaDoor
