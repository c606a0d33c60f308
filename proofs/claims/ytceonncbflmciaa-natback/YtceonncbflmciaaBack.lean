/- levellinglaw02.NatBack: the walk: true, and nothing that was there is written. -/
import Derived.Test.YtceonncbflmciaaArgs
import Derived.Test.YtceonncbflmciaaRows
namespace Go.Proofs.Ytceonncbflmciaa
open Go.RowKit Go.Shelf

theorem not_pos_ord {x y : Nat} (h : x ≤ y) : ¬ 0 < ordN x y := by
  rcases Nat.lt_or_eq_of_le h with h | rfl
  · rw [ordN_lt h]; omega
  · rw [ordN_eq]; omega

set_option maxRecDepth 100000 in
set_option maxHeartbeats 8000000 in
theorem back_walk (a0 : Option Addr) (len0 cap0 : Nat) (a1 : Option Addr) (len1 cap1 : Nat) (w : World) (h0 : Arg w a0 len0 cap0) (h1 : Arg w a1 len1 cap1) :
    Calls Try.prog 5 #[.slice a0 len0 cap0, .slice a1 len1 cap1] w fun e w' => e = .returned (.bool true) ∧ Below w.heap.size w w' := by
  by_cases g0 : 12 < len0
  · have g0' : (12 : Int) < (len0 : Int) := by omega
    go_enter Try.func5, Try.ntmps5
    go_wp2_with fail
    refine (live_c _).mono ?_
    rintro e w' ⟨rfl, hb⟩
    go_wp2
    go_ret
    exact ⟨rfl, hb⟩
  by_cases g1 : 12 < len1
  · have g0' : ¬ (12 : Int) < (len0 : Int) := by omega
    have g1' : (12 : Int) < (len1 : Int) := by omega
    go_enter Try.func5, Try.ntmps5
    go_wp2_with fail
    refine (live_c _).mono ?_
    rintro e w' ⟨rfl, hb⟩
    go_wp2
    go_ret
    exact ⟨rfl, hb⟩
  obtain ⟨A, hA, rfl⟩ := h0 (by omega)
  obtain ⟨D, hD, rfl⟩ := h1 (by omega)
  have g0' : ¬ (12 : Int) < (A.length : Int) := by omega
  have g1' : ¬ (12 : Int) < (D.length : Int) := by omega
  have sA := hA.1
  have bA := val_lt sA
  have bA2 : val A < 4294967296 ^ 12 := Nat.lt_of_lt_of_le bA (Nat.pow_le_pow_right (by omega) (by omega))
  clear bA
  go_enter Try.func5, Try.ntmps5
  have F := ((Facts.nil w).cons hA).cons hD
  have B : Below w.heap.size w w := Below.refl _ _
  clear hA hD
  -- Root(a)
  go_wp2_with fail
  refine (root_any _ A _ (F.get (by simp)) (by omega)).mono ?_
  rintro e w1 ⟨⟨v1, R, rfl, hn, hR1, hR2⟩, hb⟩
  obtain ⟨dR, hd, nR, eR'⟩ := hn.open
  have eR : Hid (val dR = R) := eR'
  have hRA : R ≤ val A := Nat.le_trans (by rcases Nat.eq_zero_or_pos R with h | h; (rw [h]; omega); exact Nat.le_mul_of_pos_left R h) hR1
  have lR := len_of_lt nR (k := 12) (by rw [eR']; omega)
  replace F := (F.below hb).cons hd
  replace B := B.trans (hb.mono B.size)
  clear hn hb hd eR'
  -- next
  go_wp2_with fail
  refine (from_c 1 (by omega) _).mono ?_
  rintro e w2 ⟨⟨v2, rfl, hn⟩, hb⟩
  obtain ⟨d2, hd, n2, e2'⟩ := hn.open
  have e2 : Hid (val d2 = 1) := e2'
  have l2 := len_small 1 n2 (by rw [e2.out]; decide) (by omega)
  replace F := (F.below hb).cons hd
  replace B := B.trans (hb.mono B.size)
  clear hn hb hd e2' w1
  go_wp2_with fail
  refine (add_c _ _ dR d2 _ (F.get (by simp)) (F.get (by simp)) (by omega) (by omega)).mono ?_
  rintro e w3 ⟨⟨v3, rfl, hn⟩, hb⟩
  obtain ⟨d3, hd, n3, e3'⟩ := hn.open
  have e3 : Hid (val d3 = R + 1) := by show _ = _; rw [e3', e2.out, eR.out]
  have l3 := len_of_lt n3 (k := 13) (by rw [e3.out]; have : (4294967296 : Nat) ^ 13 = 4294967296 ^ 12 * 4294967296 := rfl; omega)
  replace F := (F.below hb).cons hd
  replace B := B.trans (hb.mono B.size)
  clear hn hb hd e3' w2
  -- r * r against a
  go_wp2_with fail
  refine (mul_c _ _ dR dR _ (F.get (by simp)) (F.get (by simp)) (by omega) (by omega)).mono ?_
  rintro e w4 ⟨⟨v4, rfl, hn⟩, hb⟩
  obtain ⟨d4, hd, n4, e4'⟩ := hn.open
  have e4 : Hid (val d4 = R * R) := by show _ = _; rw [e4', eR.out]
  replace F := (F.below hb).cons hd
  replace B := B.trans (hb.mono B.size)
  clear hn hb hd e4' w3
  go_wp2_with fail
  refine (cmp_c _ _ d4 A _ (F.get (by simp)) (F.get (by simp))).mono ?_
  rintro e w5 ⟨rfl, hb⟩
  rw [e4.out]
  have o5 := not_pos_ord hR1
  generalize ordN (R * R) (val A) = O5 at *
  replace F := F.below hb
  replace B := B.trans (hb.mono B.size)
  clear hb w4
  -- next * next against a
  go_wp2_with fail
  refine (mul_c _ _ d3 d3 _ (F.get (by simp)) (F.get (by simp)) (by omega) (by omega)).mono ?_
  rintro e w6 ⟨⟨v6, rfl, hn⟩, hb⟩
  obtain ⟨d6, hd, n6, e6'⟩ := hn.open
  have e6 : Hid (val d6 = (R + 1) * (R + 1)) := by show _ = _; rw [e6', e3.out]
  replace F := (F.below hb).cons hd
  replace B := B.trans (hb.mono B.size)
  clear hn hb hd e6' w5
  go_wp2_with fail
  refine (cmp_c _ _ d6 A _ (F.get (by simp)) (F.get (by simp))).mono ?_
  rintro e w7 ⟨rfl, hb⟩
  rw [e6.out, ordN_gt hR2]
  replace F := F.below hb
  replace B := B.trans (hb.mono B.size)
  clear hb w6
  go_wp2_with fail
  refine (check_c _ dR _ (F.get (by simp))).mono ?_
  rintro e w8 ⟨rfl, hb⟩
  rw [normB_true.2 nR]
  replace F := F.below hb
  replace B := B.trans (hb.mono B.size)
  clear hb w7
  -- Div(a, b)
  rcases Nat.eq_zero_or_pos (val D) with hz | hz
  · have HZ : Hid (val D = 0) := hz
    clear hz
    go_wp2_with fail
    refine (div_no _ _ A D _ (F.get (by simp)) (F.get (by simp)) HZ.out).mono ?_
    rintro e w9 ⟨rfl, hb⟩
    replace F := F.below hb
    replace B := B.trans (hb.mono B.size)
    clear hb w8
    go_wp2_with fail
    refine (len_c _ D _ (F.get (by simp))).mono ?_
    rintro e w10 ⟨rfl, hb⟩
    rw [HZ.out, bl_zero]
    replace B := B.trans (hb.mono B.size)
    clear hb F w9
    go_wp2_with fail
    refine (live_c _).mono ?_
    rintro e w11 ⟨rfl, hb⟩
    replace B := B.trans (hb.mono B.size)
    go_wp2
    go_ret
    exact ⟨rfl, B⟩
  · go_wp2_with fail
    refine (div_c _ _ A D _ (F.get (by simp)) (F.get (by simp)) (by omega) hz).mono ?_
    rintro e w9 ⟨⟨v9, v10, rfl, hn, hn2⟩, hb⟩
    obtain ⟨dQ, hd, nQ, eQ'⟩ := hn.open
    obtain ⟨dL, hd2, nL, eL'⟩ := hn2.open
    have eQ : Hid (val dQ = val A / val D) := eQ'
    have eL : Hid (val dL = val A % val D) := eL'
    have lQ := len_of_lt nQ (k := 12) (by rw [eQ']; exact Nat.lt_of_le_of_lt (Nat.div_le_self _ _) bA2)
    have lL := len_of_lt nL (k := 12) (by rw [eL']; exact Nat.lt_of_le_of_lt (Nat.mod_le _ _) bA2)
    replace F := ((F.below hb).cons hd).cons hd2
    replace B := B.trans (hb.mono B.size)
    clear hn hn2 hb hd hd2 eQ' eL' w8
    go_wp2_with fail
    refine (cmp_c _ _ dL D _ (F.get (by simp)) (F.get (by simp))).mono ?_
    rintro e w10 ⟨rfl, hb⟩
    rw [eL.out, ordN_lt (Nat.mod_lt _ hz)]
    replace F := F.below hb
    replace B := B.trans (hb.mono B.size)
    clear hb w9
    go_wp2_with fail
    refine (mul_c _ _ dQ D _ (F.get (by simp)) (F.get (by simp)) (by omega) (by omega)).mono ?_
    rintro e w11 ⟨⟨v11, rfl, hn⟩, hb⟩
    obtain ⟨d11, hd, n11, e11'⟩ := hn.open
    have e11 : Hid (val d11 = val A / val D * val D) := by show _ = _; rw [e11', eQ.out]
    have l11 := len_of_lt n11 (k := 12) (by rw [e11.out]; exact Nat.lt_of_le_of_lt (Nat.div_mul_le_self _ _) bA2)
    replace F := (F.below hb).cons hd
    replace B := B.trans (hb.mono B.size)
    clear hn hb hd e11' w10
    go_wp2_with fail
    refine (add_c _ _ d11 dL _ (F.get (by simp)) (F.get (by simp)) (by omega) (by omega)).mono ?_
    rintro e w12 ⟨⟨v12, rfl, hn⟩, hb⟩
    obtain ⟨d12, hd, n12, e12'⟩ := hn.open
    have e12 : Hid (val d12 = val A) := by show _ = _; rw [e12', e11.out, eL.out, Nat.mul_comm]; exact Nat.div_add_mod _ _
    replace F := (F.below hb).cons hd
    replace B := B.trans (hb.mono B.size)
    clear hn hb hd e12' w11
    go_wp2_with fail
    refine (cmp_c _ _ d12 A _ (F.get (by simp)) (F.get (by simp))).mono ?_
    rintro e w13 ⟨rfl, hb⟩
    rw [ord_same e12.out rfl]
    replace F := F.below hb
    replace B := B.trans (hb.mono B.size)
    clear hb w12
    go_wp2_with fail
    refine (check_c _ dQ _ (F.get (by simp))).mono ?_
    rintro e w14 ⟨rfl, hb⟩
    rw [normB_true.2 nQ]
    replace F := F.below hb
    replace B := B.trans (hb.mono B.size)
    clear hb w13
    go_wp2_with fail
    refine (check_c _ dL _ (F.get (by simp))).mono ?_
    rintro e w15 ⟨rfl, hb⟩
    rw [normB_true.2 nL]
    replace B := B.trans (hb.mono B.size)
    clear hb F w14
    go_wp2_with fail
    refine (live_c _).mono ?_
    rintro e w16 ⟨rfl, hb⟩
    replace B := B.trans (hb.mono B.size)
    go_wp2
    go_ret
    exact ⟨rfl, B⟩
end Go.Proofs.Ytceonncbflmciaa
