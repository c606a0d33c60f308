/- levellingref02.Div: bit by bit. -/
import Derived.Test.YtceonncbflmciaaRefLen
namespace Go.Proofs.Ytceonncbflmciaa
open Go.RowKit Go.Shelf

/-- A number's bit, by its digits. -/
theorem digit_bit (A : List Nat) (m : Nat) (hs : small A) (hm : m / 32 < A.length) : val A / 2 ^ m % 2 = A[m / 32]?.getD 0 / 2 ^ (m % 32) % 2 := by
  have h1 := val_split A (m / 32)
  have hl : (A.take (m / 32)).length = m / 32 := by simp; omega
  have h2 := val_lt (small_take (m / 32) hs)
  rw [hl] at h1 h2
  have h3 : val A / 4294967296 ^ (m / 32) = val (A.drop (m / 32)) := by
    rw [h1, Nat.add_mul_div_left _ _ (Nat.pow_pos (by omega)), Nat.div_eq_of_lt h2, Nat.zero_add]
  have h4 := head_mod (A.drop (m / 32)) (small_drop _ hs)
  rw [getD_drop, Nat.add_zero] at h4
  rw [h4, pow_split m, ← Nat.div_div_eq_div_mul, h3]
  generalize val (A.drop (m / 32)) = V
  have hd : 2 ^ (m % 32) * 2 ∣ 4294967296 := ⟨2 ^ (31 - m % 32), by rw [← Nat.pow_succ, ← Nat.pow_add, show m % 32 + 1 + (31 - m % 32) = 32 by omega]⟩
  rw [← Nat.mod_mul_right_div_self, ← Nat.mod_mul_right_div_self, Nat.mod_mod_of_dvd _ hd]

/-- One more bit. -/
theorem half_bit (a m : Nat) : a / 2 ^ m = a / 2 ^ (m + 1) * 2 ^ 1 + a / 2 ^ m % 2 := by
  rw [Nat.pow_succ, ← Nat.div_div_eq_div_mul]; omega

theorem div_yes {T D b : Nat} (h0 : 0 < D) (hb : b ≤ 1) (h : D ≤ T % D * 2 + b) : (T * 2 + b) / D = T / D * 2 + 1 ∧ (T * 2 + b) % D = T % D * 2 + b - D := by
  have h1 := Nat.div_add_mod T D
  have h2 := Nat.mod_lt T h0
  have e : T * 2 + b = (T % D * 2 + b - D) + D * (T / D * 2 + 1) := by
    rw [Nat.mul_add, Nat.mul_one, ← Nat.mul_assoc]; omega
  rw [e, Nat.add_mul_div_left _ _ h0, Nat.add_mul_mod_self_left, Nat.div_eq_of_lt (by omega), Nat.mod_eq_of_lt (by omega)]
  omega
theorem div_not {T D b : Nat} (h0 : 0 < D) (h : ¬ D ≤ T % D * 2 + b) : (T * 2 + b) / D = T / D * 2 ∧ (T * 2 + b) % D = T % D * 2 + b := by
  have h1 := Nat.div_add_mod T D
  have e : T * 2 + b = (T % D * 2 + b) + D * (T / D * 2) := by
    rw [← Nat.mul_assoc]; omega
  rw [e, Nat.add_mul_div_left _ _ h0, Nat.add_mul_mod_self_left, Nat.div_eq_of_lt (by omega), Nat.mod_eq_of_lt (by omega)]
  omega

set_option maxRecDepth 100000 in
set_option maxHeartbeats 4000000 in
theorem rdiv_no (va vb : Value) (B : List Nat) (w : World) (hB : Digs w vb B) (h0 : val B = 0) :
    Calls Try.prog 19 #[va, vb] w fun e w' => e = .returned (.tuple #[.slice none 0 0, .slice none 0 0, .bool false]) ∧ Below w.heap.size w w' := by
  have hz : trimL B = [] := val_zero_nil (norm_trimL _) (by rw [val_trimL]; exact h0)
  go_enter Try.func19, Try.ntmps19
  go_wp2_with fail
  refine (rtrim_c _ B _ hB).mono ?_
  rintro e w1 ⟨⟨v1, rfl, hX⟩, hb⟩
  rw [hz] at hX
  obtain ⟨aa, ca, rfl, hca⟩ := hX.shape
  simp only [List.length_nil]
  clear hz h0
  go_wp2
  go_ret3
  exact ⟨rfl, hb⟩

set_option maxRecDepth 100000 in
set_option maxHeartbeats 4000000 in
theorem rdiv_c (va vb : Value) (A D : List Nat) (w : World) (hA : Digs w va A) (hB : Digs w vb D) (hla : A.length ≤ 12) (hlb : D.length ≤ 12) (h0 : 0 < val D) :
    Calls Try.prog 19 #[va, vb] w fun e w' => (∃ v v2, e = .returned (.tuple #[v, v2, .bool true]) ∧ Res w' v (val A / val D) ∧ Res w' v2 (val A % val D)) ∧ Below w.heap.size w w' := by
  obtain ⟨aa, ca, rfl, hca⟩ := hA.shape
  have sA := hA.1
  have bA : val A < 4294967296 ^ 12 := Nat.lt_of_lt_of_le (val_lt sA) (Nat.pow_le_pow_right (by omega) (by omega))
  have bD : val D < 4294967296 ^ 12 := Nat.lt_of_lt_of_le (val_lt hB.1) (Nat.pow_le_pow_right (by omega) (by omega))
  have BA : Hid (val A < 4294967296 ^ 12) := bA
  have BD : Hid (val D < 4294967296 ^ 12) := bD
  have hbl : bl (val A) ≤ 32 * A.length := by have := val_lt sA; rw [B_pow] at this; exact bl_le this
  have HLB := lt_bl (val A)
  have HLB' : Hid (val A < 2 ^ bl (val A)) := HLB
  have hy0 : 0 < (trimL D).length := by
    apply Classical.byContradiction
    intro h
    rw [← val_trimL, List.length_eq_zero_iff.1 (show (trimL D).length = 0 by omega)] at h0
    simp [val] at h0
  have hy0' : (((trimL D).length : Int) == 0) = false := by simp; intro h; rw [h] at hy0; simp at hy0
  clear bA bD HLB
  go_enter Try.func19, Try.ntmps19
  go_wp2_with fail
  refine (rtrim_c _ D _ hB).mono ?_
  rintro e w1 ⟨⟨v1, rfl, hX⟩, hb1⟩
  obtain ⟨ab, cb, rfl, hcb⟩ := hX.shape
  clear hX
  have hA1 := hA.below hb1 (Nat.le_refl _)
  have hB1 := hB.below hb1 (Nat.le_refl _)
  clear hA hB
  go_wp2_with fail
  refine (rlen_c _ A _ hA1).mono ?_
  rintro e w2 ⟨rfl, hb2⟩
  have hA2 := hA1.below hb2 (Nat.le_refl _)
  have hB2 := hB1.below hb2 (Nat.le_refl _)
  have hbw : Below w.heap.size w w2 := hb1.trans (hb2.mono hb1.size)
  clear hA1 hB1 hb1 hb2
  generalize bl (val A) = n0 at *
  go_wp2_with fail
  go_loopw [7, 8, 9] (fun q r i wr => ∃ n : Nat, n ≤ n0 ∧ i = .int .i64 ((n : Int) - 1) ∧ Res wr q (val A / 2 ^ n / val D) ∧ Res wr r (val A / 2 ^ n % val D) ∧ Digs wr (.slice aa A.length ca) A ∧ Digs wr vb D ∧ Below w.heap.size w wr)
    (fun _ _ i _ => (intOf i + 1).toNat)
  case atStart =>
    refine ⟨n0, Nat.le_refl _, rfl, ?_, ?_, hA2, hB2, hbw⟩
    · rw [Nat.div_eq_of_lt HLB'.out, Nat.zero_div]; exact Res.nil _
    · rw [Nat.div_eq_of_lt HLB'.out, Nat.zero_mod]; exact Res.nil _
  case round =>
    obtain ⟨n, hn, rfl, ⟨dq, hq, nq, eq'⟩, ⟨dr, hr, nr, er'⟩, hAr, hBr, hbr⟩ := hrel
    clear hA2 hB2 hbw
    rcases n with _ | m
    · go_wp2_with fail
      refine (rtrim_c _ dq _ hq).mono ?_
      rintro e w3 ⟨⟨v3, rfl, h3⟩, hb3⟩
      go_wp2_with fail
      refine (rtrim_c _ dr _ (hr.below hb3 (Nat.le_refl _))).mono ?_
      rintro e w4 ⟨⟨v4, rfl, h4⟩, hb4⟩
      go_wp2
      go_ret3
      rw [Nat.pow_zero, Nat.div_one] at eq' er'
      exact ⟨⟨_, _, rfl, ⟨_, h3.below hb4 (Nat.le_refl _), norm_trimL _, by rw [val_trimL]; exact eq'⟩, ⟨_, h4, norm_trimL _, by rw [val_trimL]; exact er'⟩⟩, (hbr.trans (hb3.mono hbr.size)).trans (hb4.mono (by have := hbr.size; have := hb3.size; omega))⟩
    · rw [show (((m + 1 : Nat) : Int) - 1) = (m : Int) by omega]
      have hm1 : m / 32 < A.length := by omega
      obtain ⟨T, hT⟩ : ∃ T, val A / 2 ^ (m + 1) = T := ⟨_, rfl⟩
      rw [hT] at eq' er'
      have HT : Hid (val A / 2 ^ (m + 1) = T) := hT
      have eq : Hid (val dq = T / val D) := eq'
      have er : Hid (val dr = T % val D) := er'
      have hTA : T ≤ val A := by rw [← hT]; exact Nat.div_le_self _ _
      have lq := len_of_lt nq (k := 12) (by rw [eq']; exact Nat.lt_of_le_of_lt (Nat.le_trans (Nat.div_le_self _ _) hTA) BA.out)
      have lr := len_of_lt nr (k := 12) (by rw [er']; exact Nat.lt_trans (Nat.mod_lt _ h0) BD.out)
      clear hT eq' er' hTA
      have F := ((((Facts.nil wr).cons hAr).cons hBr).cons hq).cons hr
      have B : Below w.heap.size w wr := hbr
      clear hAr hBr hq hr hbr
      obtain ⟨b1, o1, c1, e1, _, hc1⟩ := (F.get (v := .slice aa A.length ca) (ds := A) (by simp)).cell (by omega)
      obtain ⟨rfl, rfl⟩ : aa = some ⟨b1, o1, none⟩ ∧ ca = c1 := by simpa using e1
      obtain ⟨x, hx⟩ : ∃ x, A[m / 32]?.getD 0 = x := ⟨_, rfl⟩
      have hxs : x < 4294967296 := by rw [← hx]; exact small_getD sA _
      have HBT : Hid (val A / 2 ^ m % 2 = x / 2 ^ (m % 32) % 2) := by show _ = _; rw [← hx]; exact digit_bit A m sA hm1
      have HX : Hid (A[m / 32]?.getD 0 = x) := hx
      clear hx hc1 e1
      -- r and q, shifted
      go_wp2_with fail
      refine (rshl_c _ dr 1 _ (F.get (by simp)) (by omega) (by omega)).mono ?_
      rintro e w3 ⟨⟨v3, rfl, d3, hd3, n3, e3'⟩, hb⟩
      have e3 : Hid (val d3 = T % val D * 2) := by show _ = _; rw [e3', er.out]
      replace F := (F.below hb).cons hd3
      replace B := B.trans (hb.mono B.size)
      clear hb hd3 e3'
      go_wp2_with fail
      refine (rshl_c _ dq 1 _ (F.get (by simp)) (by omega) (by omega)).mono ?_
      rintro e w4 ⟨⟨v4, rfl, d4, hd4, n4, e4'⟩, hb⟩
      have e4 : Hid (val d4 = T / val D * 2) := by show _ = _; rw [e4', eq.out]
      replace F := (F.below hb).cons hd4
      replace B := B.trans (hb.mono B.size)
      clear hb hd4 e4' w3
      have l3 := len_of_lt n3 (k := 13) (by rw [e3.out]; have := Nat.mod_lt T h0; have := BD.out; have : (4294967296 : Nat) ^ 13 = 4294967296 ^ 12 * 4294967296 := rfl; omega)
      have l4 := len_of_lt n4 (k := 13) (by rw [e4.out]; have h1 := Nat.div_le_self T (val D); have h2 : T ≤ val A := by rw [← HT.out]; exact Nat.div_le_self _ _
                                            have := BA.out; have : (4294967296 : Nat) ^ 13 = 4294967296 ^ 12 * 4294967296 := rfl; omega)
      have hcx : w4.cell? ⟨b1, o1 + m / 32, none⟩ = some (.int .u32 (x : Int)) := by
        obtain ⟨b2, o2, c2, e2, _, hc2⟩ := (F.get (v := .slice (some ⟨b1, o1, none⟩) A.length ca) (ds := A) (by simp)).cell (by omega)
        simp only [Value.slice.injEq, Option.some.injEq, Addr.mk.injEq] at e2
        obtain ⟨⟨rfl, rfl, _⟩, _, _⟩ := e2
        rw [hc2 _ hm1, HX.out]
      have hsh : ((x : Int) / 2 ^ (m % 32)) = ((x / 2 ^ (m % 32) : Nat) : Int) := by simp
      have HFIN : Hid (∀ bit : Nat, bit = x / 2 ^ (m % 32) % 2 → val A / 2 ^ m = T * 2 + bit) := by
        intro bit hbit
        have := half_bit (val A) m
        rw [HT.out, HBT.out, ← hbit] at this
        exact this
      generalize x / 2 ^ (m % 32) = S at *
      by_cases hbit : S % 2 = 1
      · have HBB : Hid (1 = S % 2) := hbit.symm
        go_wp2_with fail
        refine (rfrom_one _).mono ?_
        rintro e w5 ⟨⟨v5, rfl, d5, hd5, n5, e5'⟩, hb⟩
        have e5 : Hid (val d5 = 1) := e5'
        have l5 := len_small 1 n5 (by rw [e5']; decide) (by omega)
        replace F := (F.below hb).cons hd5
        replace B := B.trans (hb.mono B.size)
        clear hb hd5 e5' hcx w4
        go_wp2_with fail
        refine (radd_c _ _ d3 d5 _ (F.get (by simp)) (F.get (by simp)) (by omega) (by omega)).mono ?_
        rintro e w6 ⟨⟨v6, rfl, d6, hd6, n6, e6'⟩, hb⟩
        have eb : Hid (val d6 = T % val D * 2 + 1) := by show _ = _; rw [e6', e3.out, e5.out]
        have l6 := len_of_lt n6 (k := 13) (by rw [eb.out]; have := Nat.mod_lt T h0; have := BD.out; have : (4294967296 : Nat) ^ 13 = 4294967296 ^ 12 * 4294967296 := rfl; omega)
        replace F := (F.below hb).cons hd6
        replace B := B.trans (hb.mono B.size)
        clear hb hd6 e6' w5
        go_wp2_with fail
        refine (rsub_any _ _ d6 D _ (F.get (by simp)) (F.get (by simp)) (by omega) (by omega)).mono ?_
        rintro e w7 ⟨⟨v7, rfl, d7, hd7, n7, e7'⟩, hb⟩
        have e7 : Hid (val d7 = T % val D * 2 + 1 - val D) := by show _ = _; rw [e7', eb.out]
        replace F := (F.below hb).cons hd7
        replace B := B.trans (hb.mono B.size)
        clear hb hd7 e7' w6
        have HV := HFIN.out 1 HBB.out
        by_cases hle : val D ≤ T % val D * 2 + 1
        · rw [eb.out, decide_eq_true hle]
          obtain ⟨q1, q2⟩ := div_yes (b := 1) h0 (by omega) hle
          rw [← HV] at q1 q2
          have Q1 : Hid _ := q1
          have Q2 : Hid _ := q2
          clear q1 q2 HV hle
          go_wp2_with fail
          refine (rfrom_one _).mono ?_
          rintro e w8 ⟨⟨v8, rfl, d8, hd8, n8, e8'⟩, hb⟩
          have e8 : Hid (val d8 = 1) := e8'
          have l8 := len_small 1 n8 (by rw [e8']; decide) (by omega)
          replace F := (F.below hb).cons hd8
          replace B := B.trans (hb.mono B.size)
          clear hb hd8 e8' w7
          go_wp2_with fail
          refine (radd_c _ _ d4 d8 _ (F.get (by simp)) (F.get (by simp)) (by omega) (by omega)).mono ?_
          rintro e w9 ⟨⟨v9, rfl, d9, hd9, n9, e9'⟩, hb⟩
          have e9 : Hid (val d9 = T / val D * 2 + 1) := by show _ = _; rw [e9', e4.out, e8.out]
          replace F := (F.below hb).cons hd9
          replace B := B.trans (hb.mono B.size)
          clear hb hd9 e9' w8
          go_wp2
          go_roundw
          case rel => exact ⟨m, by omega, rfl, ⟨d9, F.get (by simp), n9, e9.out.trans Q1.out.symm⟩, ⟨d7, F.get (by simp), n7, e7.out.trans Q2.out.symm⟩, F.get (by simp), F.get (by simp), B⟩
          case measure => simp [intOf]
        · rw [eb.out, decide_eq_false hle]
          obtain ⟨q1, q2⟩ := div_not (b := 1) h0 hle
          rw [← HV] at q1 q2
          have Q1 : Hid _ := q1
          have Q2 : Hid _ := q2
          clear q1 q2 HV hle
          go_wp2
          go_roundw
          case rel => exact ⟨m, by omega, rfl, ⟨d4, F.get (by simp), n4, e4.out.trans Q1.out.symm⟩, ⟨d6, F.get (by simp), n6, eb.out.trans Q2.out.symm⟩, F.get (by simp), F.get (by simp), B⟩
          case measure => simp [intOf]
      · have HBB : Hid (0 = S % 2) := by show 0 = S % 2; omega
        have eb : Hid (val d3 = T % val D * 2 + 0) := e3
        go_wp2_with fail
        refine (rsub_any _ _ d3 D _ (F.get (by simp)) (F.get (by simp)) (by omega) (by omega)).mono ?_
        rintro e w7 ⟨⟨v7, rfl, d7, hd7, n7, e7'⟩, hb⟩
        have e7 : Hid (val d7 = T % val D * 2 + 0 - val D) := by show _ = _; rw [e7', eb.out]
        replace F := (F.below hb).cons hd7
        replace B := B.trans (hb.mono B.size)
        clear hb hd7 e7' hcx w4
        have HV := HFIN.out 0 HBB.out
        by_cases hle : val D ≤ T % val D * 2 + 0
        · rw [eb.out, decide_eq_true hle]
          obtain ⟨q1, q2⟩ := div_yes (b := 0) h0 (by omega) hle
          rw [← HV] at q1 q2
          have Q1 : Hid _ := q1
          have Q2 : Hid _ := q2
          clear q1 q2 HV hle
          go_wp2_with fail
          refine (rfrom_one _).mono ?_
          rintro e w8 ⟨⟨v8, rfl, d8, hd8, n8, e8'⟩, hb⟩
          have e8 : Hid (val d8 = 1) := e8'
          have l8 := len_small 1 n8 (by rw [e8']; decide) (by omega)
          replace F := (F.below hb).cons hd8
          replace B := B.trans (hb.mono B.size)
          clear hb hd8 e8' w7
          go_wp2_with fail
          refine (radd_c _ _ d4 d8 _ (F.get (by simp)) (F.get (by simp)) (by omega) (by omega)).mono ?_
          rintro e w9 ⟨⟨v9, rfl, d9, hd9, n9, e9'⟩, hb⟩
          have e9 : Hid (val d9 = T / val D * 2 + 1) := by show _ = _; rw [e9', e4.out, e8.out]
          replace F := (F.below hb).cons hd9
          replace B := B.trans (hb.mono B.size)
          clear hb hd9 e9' w8
          go_wp2
          go_roundw
          case rel => exact ⟨m, by omega, rfl, ⟨d9, F.get (by simp), n9, e9.out.trans Q1.out.symm⟩, ⟨d7, F.get (by simp), n7, e7.out.trans Q2.out.symm⟩, F.get (by simp), F.get (by simp), B⟩
          case measure => simp [intOf]
        · rw [eb.out, decide_eq_false hle]
          obtain ⟨q1, q2⟩ := div_not (b := 0) h0 hle
          rw [← HV] at q1 q2
          have Q1 : Hid _ := q1
          have Q2 : Hid _ := q2
          clear q1 q2 HV hle
          go_wp2
          go_roundw
          case rel => exact ⟨m, by omega, rfl, ⟨d4, F.get (by simp), n4, e4.out.trans Q1.out.symm⟩, ⟨d3, F.get (by simp), n3, eb.out.trans Q2.out.symm⟩, F.get (by simp), F.get (by simp), B⟩
          case measure => simp [intOf]
end Go.Proofs.Ytceonncbflmciaa
