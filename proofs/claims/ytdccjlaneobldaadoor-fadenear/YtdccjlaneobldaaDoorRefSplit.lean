/- levellingref01.Split, .Same, .All. -/
import Derived.Test.YtdccjlaneobldaaDoorFloats
import Derived.BigQuiet
namespace Go.Proofs.YtdccjlaneobldaaDoor
open Go.RowKit Go.Shelf

/-- A float's kind: 0, finite, infinite, no number. -/
def kindN (x : Nat) : Nat :=
  if x / 4503599627370496 % 2048 = 2047 then (if x % 4503599627370496 = 0 then 2 else 3)
  else if x / 4503599627370496 % 2048 = 0 ∧ x % 4503599627370496 = 0 then 0 else 1
/-- Its sign, as Split tells it. -/
def negN (x : Nat) : Bool := !(decide (kindN x = 3)) && decide (9223372036854775808 ≤ x)

theorem u64_mant (x : Nat) (hx : x < 18446744073709551616) : bits .and .u64 (x : Int) 4503599627370495 = ((x % 4503599627370496 : Nat) : Int) := by
  have h := u64_and_nat x 4503599627370495 hx (by decide)
  have e : (4503599627370495 : Nat) = 2 ^ 52 - 1 := by decide
  rw [e, Nat.and_two_pow_sub_one_eq_mod] at h
  exact h
theorem u64_field (x : Nat) (hx : x < 18446744073709551616) : bits .and .u64 ((x : Int) / 4503599627370496) 2047 = ((x / 4503599627370496 % 2048 : Nat) : Int) := by
  have h := u64_and_nat (x / 4503599627370496) 2047 (by omega) (by decide)
  have e : (2047 : Nat) = 2 ^ 11 - 1 := by decide
  rw [e, Nat.and_two_pow_sub_one_eq_mod] at h
  rw [show ((x : Int) / 4503599627370496) = ((x / 4503599627370496 : Nat) : Int) from by omega]
  exact h

theorem results4 {fn : Func} {t u v s : Tmp} (h : fn.results = #[.tmp t, .tmp u, .tmp v, .tmp s]) (tmps : Array Value) (P : Program) (w : World) :
    (results fn tmps).run P w = .ok (.tuple #[tmps.getD t undef, tmps.getD u undef, tmps.getD v undef, tmps.getD s undef]) w := by
  simp only [results, h]
  simp

set_option maxRecDepth 100000 in
set_option maxHeartbeats 1000000 in
theorem split_c (x : Nat) (hx : x < 18446744073709551616) (w : World) :
    Calls Tryd.prog 48 #[fl x] w fun e w' => (∃ m k : Int, e = .returned (.tuple #[.bool (negN x), .int .u64 m, .int .i64 k, .int .i64 (kindN x : Int)])) ∧ w' = w := by
  have hb := run_bits
  obtain ⟨F, HF⟩ : ∃ F, Hid (x / 4503599627370496 % 2048 = F) := ⟨_, rfl⟩
  obtain ⟨M, HM⟩ : ∃ M, Hid (x % 4503599627370496 = M) := ⟨_, rfl⟩
  have h1 := u64_field x hx
  have h2 := u64_mant x hx
  rw [HF.out] at h1
  rw [HM.out] at h2
  have hF : F < 2048 := by rw [← HF.out]; exact Nat.mod_lt _ (by decide)
  have hM : M < 4503599627370496 := by rw [← HM.out]; exact Nat.mod_lt _ (by decide)
  have HS : Hid (((x : Int) / 9223372036854775808 == 1) = decide (9223372036854775808 ≤ x)) := by
    show _ = _
    by_cases h : 9223372036854775808 ≤ x
    · rw [decide_eq_true h]; simp; omega
    · rw [decide_eq_false h]; simp; omega
  by_cases c1 : F = 2047
  · by_cases c2 : M = 0
    · have HK : Hid (kindN x = 2) := by show _ = _; unfold kindN; rw [HF.out, HM.out, if_pos c1, if_pos c2]
      have HN : Hid (negN x = ((x : Int) / 9223372036854775808 == 1)) := by show _ = _; unfold negN; rw [HK.out, HS.out]; rfl
      subst c1 c2
      go_enter Tryd.func48, Tryd.ntmps48
      go_wp2
      exact bodyPost_ret_by (results4 rfl _ _ _) rfl ⟨⟨_, _, by rw [HK.out, HN.out]; rfl⟩, rfl⟩
    · have HK : Hid (kindN x = 3) := by show _ = _; unfold kindN; rw [HF.out, HM.out, if_pos c1, if_neg c2]
      have HN : Hid (negN x = false) := by show _ = _; unfold negN; rw [HK.out]; rfl
      have c2' : ((M : Int) != 0) = true := by simp [c2]
      subst c1
      go_enter Tryd.func48, Tryd.ntmps48
      go_wp2
      exact bodyPost_ret_by (results4 rfl _ _ _) rfl ⟨⟨_, _, by rw [HK.out, HN.out]; rfl⟩, rfl⟩
  · have c1' : ((F : Int) == 2047) = false := by simp; omega
    by_cases c3 : F = 0
    · by_cases c2 : M = 0
      · have HK : Hid (kindN x = 0) := by show _ = _; unfold kindN; rw [HF.out, HM.out, if_neg c1, if_pos ⟨c3, c2⟩]
        have HN : Hid (negN x = ((x : Int) / 9223372036854775808 == 1)) := by show _ = _; unfold negN; rw [HK.out, HS.out]; rfl
        clear c1'
        subst c3 c2
        go_enter Tryd.func48, Tryd.ntmps48
        go_wp2
        exact bodyPost_ret_by (results4 rfl _ _ _) rfl ⟨⟨_, _, by rw [HK.out, HN.out]; rfl⟩, rfl⟩
      · have HK : Hid (kindN x = 1) := by show _ = _; unfold kindN; rw [HF.out, HM.out, if_neg c1, if_neg (fun h => c2 h.2)]
        have HN : Hid (negN x = ((x : Int) / 9223372036854775808 == 1)) := by show _ = _; unfold negN; rw [HK.out, HS.out]; rfl
        have c2' : ((M : Int) == 0) = false := by simp [c2]
        clear c1'
        subst c3
        go_enter Tryd.func48, Tryd.ntmps48
        go_wp2
        exact bodyPost_ret_by (results4 rfl _ _ _) rfl ⟨⟨_, _, by rw [HK.out, HN.out]; rfl⟩, rfl⟩
    · have HK : Hid (kindN x = 1) := by show _ = _; unfold kindN; rw [HF.out, HM.out, if_neg c1, if_neg (fun h => c3 h.1)]
      have HN : Hid (negN x = ((x : Int) / 9223372036854775808 == 1)) := by show _ = _; unfold negN; rw [HK.out, HS.out]; rfl
      have c3' : ((F : Int) == 0) = false := by simp [c3]
      go_enter Tryd.func48, Tryd.ntmps48
      go_wp2
      exact bodyPost_ret_by (results4 rfl _ _ _) rfl ⟨⟨_, _, by rw [HK.out, HN.out]; rfl⟩, rfl⟩

/-- Are two floats the same? -/
def sameB (x y : Nat) : Bool := (decide (kindN x = 3) && decide (kindN y = 3)) || decide (x = y)
theorem sameB_refl (x : Nat) : sameB x x = true := by simp [sameB]

set_option maxRecDepth 100000 in
set_option maxHeartbeats 1000000 in
theorem same_c (x y : Nat) (hx : x < 18446744073709551616) (hy : y < 18446744073709551616) (w : World) :
    Calls Tryd.prog 47 #[fl x, fl y] w fun e w' => e = .returned (.bool (sameB x y)) ∧ w' = w := by
  have hb := run_bits
  obtain ⟨k, HKX⟩ : ∃ k, Hid (kindN x = k) := ⟨_, rfl⟩
  obtain ⟨l, HKY⟩ : ∃ l, Hid (kindN y = l) := ⟨_, rfl⟩
  by_cases c : k = 3 ∧ l = 3
  · obtain ⟨rfl, rfl⟩ := c
    have HS : Hid (sameB x y = true) := by show _ = _; unfold sameB; rw [HKX.out, HKY.out]; rfl
    go_enter Tryd.func47, Tryd.ntmps47
    go_wp2_with fail
    refine (split_c x hx _).mono ?_
    rintro e w1 ⟨⟨m1, k1, rfl⟩, rfl⟩
    rw [HKX.out]
    go_wp2_with fail
    refine (split_c y hy _).mono ?_
    rintro e w2 ⟨⟨m2, k2, rfl⟩, rfl⟩
    rw [HKY.out]
    go_wp2
    go_ret
    exact ⟨ret_bool HS.out.symm, rfl⟩
  · have HS : Hid (sameB x y = ((x : Int) == (y : Int))) := by
      show _ = _
      unfold sameB
      rw [HKX.out, HKY.out]
      have h2 : ((x : Int) == (y : Int)) = decide (x = y) := by
        by_cases h : x = y
        · simp [h]
        · have h' : ¬ (x : Int) = (y : Int) := by omega
          simp [h, h']
      rw [h2]
      by_cases h3 : k = 3
      · have : ¬ l = 3 := fun h => c ⟨h3, h⟩
        simp [this]
      · simp [h3]
    go_enter Tryd.func47, Tryd.ntmps47
    go_wp2_with fail
    refine (split_c x hx _).mono ?_
    rintro e w1 ⟨⟨m1, k1, rfl⟩, rfl⟩
    rw [HKX.out]
    go_wp2_with fail
    refine (split_c y hy _).mono ?_
    rintro e w2 ⟨⟨m2, k2, rfl⟩, rfl⟩
    rw [HKY.out]
    by_cases h3 : k = 3
    · have h4 : ((l : Int) == 3) = false := by simp; omega
      subst h3
      go_wp2
      go_ret
      exact ⟨ret_bool HS.out.symm, rfl⟩
    · have h4 : ((k : Int) == 3) = false := by simp; omega
      go_wp2
      go_ret
      exact ⟨ret_bool HS.out.symm, rfl⟩
end Go.Proofs.YtdccjlaneobldaaDoor
