/- levellingref02.Root: bit by bit. -/
import Derived.Test.YtceonncbflmciaaRefDiv
namespace Go.Proofs.Ytceonncbflmciaa
open Go.RowKit Go.Shelf

theorem root_unique {n a b : Nat} (ha : a * a ≤ n) (ha2 : n < (a + 1) * (a + 1)) (hb : b * b ≤ n) (hb2 : n < (b + 1) * (b + 1)) : a = b := by
  rcases Nat.lt_trichotomy a b with h | h | h
  · have := Nat.mul_le_mul (show a + 1 ≤ b by omega) (show a + 1 ≤ b by omega); omega
  · exact h
  · have := Nat.mul_le_mul (show b + 1 ≤ a by omega) (show b + 1 ≤ a by omega); omega

theorem rroot_start (n : Nat) : n < (0 + 2 ^ (bl n / 2 + 1)) * (0 + 2 ^ (bl n / 2 + 1)) := by
  have h1 := lt_bl n
  have h2 : 2 ^ bl n ≤ 2 ^ (bl n / 2 + 1) * 2 ^ (bl n / 2 + 1) := by
    rw [← Nat.pow_add]; exact Nat.pow_le_pow_right (by omega) (by omega)
  rw [Nat.zero_add]
  omega

theorem not_pos_ord' {x y : Nat} (h : x ≤ y) : ¬ 0 < ordN x y := by
  rcases Nat.lt_or_eq_of_le h with h | rfl
  · rw [ordN_lt h]; omega
  · rw [ordN_eq]; omega

theorem sq_le {r n : Nat} (h : r * r ≤ n) : r ≤ n := by
  rcases Nat.eq_zero_or_pos r with h1 | h1
  · omega
  · exact Nat.le_trans (Nat.le_mul_of_pos_left r h1) h

set_option maxRecDepth 100000 in
set_option maxHeartbeats 4000000 in
theorem rroot_c (va : Value) (A : List Nat) (w : World) (hA : Digs w va A) (hla : A.length ≤ 12) :
    Calls Try.prog 21 #[va] w fun e w' => (∃ v R, e = .returned v ∧ Res w' v R ∧ R * R ≤ val A ∧ val A < (R + 1) * (R + 1)) ∧ Below w.heap.size w w' := by
  have sA := hA.1
  have BA : Hid (val A < 4294967296 ^ 12) := Nat.lt_of_lt_of_le (val_lt sA) (Nat.pow_le_pow_right (by omega) (by omega))
  have hbl : bl (val A) ≤ 384 := by have := val_lt sA; rw [B_pow] at this; have := bl_le this; omega
  have HS : Hid (val A < (0 + 2 ^ (bl (val A) / 2 + 1)) * (0 + 2 ^ (bl (val A) / 2 + 1))) := rroot_start _
  go_enter Try.func21, Try.ntmps21
  go_wp2_with fail
  refine (rlen_c _ A _ hA).mono ?_
  rintro e w1 ⟨rfl, hb1⟩
  have hA1 := hA.below hb1 (Nat.le_refl _)
  clear hA
  generalize bl (val A) = n0 at *
  go_wp2_with fail
  go_loopw [3, 4] (fun r i wr => ∃ (m R : Nat), m ≤ n0 / 2 + 1 ∧ i = .int .i64 ((m : Int) - 1) ∧ Res wr r R ∧ Hid (R * R ≤ val A) ∧ Hid (val A < (R + 2 ^ m) * (R + 2 ^ m)) ∧ Digs wr va A ∧ Below w.heap.size w wr)
    (fun _ i _ => (intOf i + 1).toNat)
  case atStart => exact ⟨n0 / 2 + 1, 0, Nat.le_refl _, congrArg (Value.int .i64) (by omega), Res.nil _, Nat.zero_le _, HS, hA1, hb1⟩
  case round =>
    obtain ⟨m, R, hm, rfl, ⟨dr, hr, nr, er'⟩, HR, HT, hAr, hbr⟩ := hrel
    clear hA1 hb1
    have er : Hid (val dr = R) := er'
    have lr := len_of_lt nr (k := 12) (by rw [er']; exact Nat.lt_of_le_of_lt (sq_le HR.out) BA.out)
    clear er'
    rcases m with _ | i
    · go_wp2_with fail
      refine (rtrim_c _ dr _ hr).mono ?_
      rintro e w3 ⟨⟨v3, rfl, h3⟩, hb3⟩
      go_wp2
      go_ret
      exact ⟨⟨_, R, rfl, ⟨_, h3, norm_trimL _, by rw [val_trimL]; exact er.out⟩, HR.out, HT.out⟩, hbr.trans (hb3.mono hbr.size)⟩
    · rw [show (((i + 1 : Nat) : Int) - 1) = (i : Int) by omega]
      have hi2 : i ≤ 192 := by omega
      have F := ((Facts.nil wr).cons hAr).cons hr
      have B : Below w.heap.size w wr := hbr
      clear hAr hr hbr
      go_wp2_with fail
      refine (rfrom_one _).mono ?_
      rintro e w2 ⟨⟨v2, rfl, d2, hd2, n2, e2'⟩, hb⟩
      have e2 : Hid (val d2 = 1) := e2'
      have l2 := len_small 1 n2 (by rw [e2']; decide) (by omega)
      replace F := (F.below hb).cons hd2
      replace B := B.trans (hb.mono B.size)
      clear hb hd2 e2'
      go_wp2_with fail
      refine (rshl_c _ d2 i _ (F.get (by simp)) (by omega) (by omega)).mono ?_
      rintro e w3 ⟨⟨v3, rfl, d3, hd3, n3, e3'⟩, hb⟩
      have e3 : Hid (val d3 = 2 ^ i) := by show _ = _; rw [e3', e2.out, Nat.one_mul]
      have l3 := len_of_lt n3 (k := 7) (by rw [e3.out, B_pow]; exact Nat.pow_lt_pow_right (by omega) (by omega))
      replace F := (F.below hb).cons hd3
      replace B := B.trans (hb.mono B.size)
      clear hb hd3 e3' w2
      go_wp2_with fail
      refine (radd_c _ _ dr d3 _ (F.get (by simp)) (F.get (by simp)) (by omega) (by omega)).mono ?_
      rintro e w4 ⟨⟨v4, rfl, d4, hd4, n4, e4'⟩, hb⟩
      have e4 : Hid (val d4 = R + 2 ^ i) := by show _ = _; rw [e4', e3.out, er.out]
      have l4 := len_of_lt n4 (k := 13) (by
        rw [e4.out]
        have h1 := sq_le HR.out
        have h2 := BA.out
        have h4 : 2 ^ i < 4294967296 ^ 7 := by rw [B_pow]; exact Nat.pow_lt_pow_right (by omega) (by omega)
        have h3 : 2 ^ i < 4294967296 ^ 12 := Nat.lt_of_lt_of_le h4 (Nat.pow_le_pow_right (by omega) (by omega))
        have : (4294967296 : Nat) ^ 13 = 4294967296 ^ 12 * 4294967296 := rfl
        omega)
      replace F := (F.below hb).cons hd4
      replace B := B.trans (hb.mono B.size)
      clear hb hd4 e4' w3
      go_wp2_with fail
      refine (rmul_c _ _ d4 d4 _ (F.get (by simp)) (F.get (by simp)) (by omega) (by omega)).mono ?_
      rintro e w5 ⟨⟨v5, rfl, d5, hd5, n5, e5'⟩, hb⟩
      have e5 : Hid (val d5 = (R + 2 ^ i) * (R + 2 ^ i)) := by show _ = _; rw [e5', e4.out]
      replace F := (F.below hb).cons hd5
      replace B := B.trans (hb.mono B.size)
      clear hb hd5 e5' w4
      go_wp2_with fail
      refine (rcmp_c _ _ d5 A _ (F.get (by simp)) (F.get (by simp))).mono ?_
      rintro e w6 ⟨rfl, hb⟩
      rw [e5.out]
      replace F := F.below hb
      replace B := B.trans (hb.mono B.size)
      clear hb w5
      by_cases hle : (R + 2 ^ i) * (R + 2 ^ i) ≤ val A
      · have ho : ordN ((R + 2 ^ i) * (R + 2 ^ i)) (val A) ≤ 0 := by have := not_pos_ord' hle; omega
        have HLE : Hid ((R + 2 ^ i) * (R + 2 ^ i) ≤ val A) := hle
        clear hle
        generalize ordN ((R + 2 ^ i) * (R + 2 ^ i)) (val A) = O at *
        go_wp2
        go_roundw
        case rel => exact ⟨i, R + 2 ^ i, by omega, rfl, ⟨d4, F.get (by simp), n4, e4.out⟩, HLE, by show _ < _; rw [Nat.add_assoc, show 2 ^ i + 2 ^ i = 2 ^ (i + 1) by rw [Nat.pow_succ]; omega]; exact HT.out, F.get (by simp), B⟩
        case measure => simp [intOf]
      · have ho : ¬ ordN ((R + 2 ^ i) * (R + 2 ^ i)) (val A) ≤ 0 := by rw [ordN_gt (by omega)]; omega
        have HLE : Hid (val A < (R + 2 ^ i) * (R + 2 ^ i)) := Nat.lt_of_not_le hle
        clear hle
        generalize ordN ((R + 2 ^ i) * (R + 2 ^ i)) (val A) = O at *
        go_wp2
        go_roundw
        case rel => exact ⟨i, R, by omega, rfl, ⟨dr, F.get (by simp), nr, er.out⟩, HR, HLE, F.get (by simp), B⟩
        case measure => simp [intOf]
end Go.Proofs.Ytceonncbflmciaa
