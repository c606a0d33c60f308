/- levellinglaw02.live: it is true. -/
import Derived.Test.YtceonncbflmciaaRoot
import Derived.Test.YtceonncbflmciaaLow
import Derived.Test.YtceonncbflmciaaMul
import Derived.Test.YtceonncbflmciaaSub
namespace Go.Proofs.Ytceonncbflmciaa
open Go.RowKit Go.Shelf

/-- Slices and the digits that they hold, at one world. -/
def Facts (W : World) (l : List (Value × List Nat)) : Prop := ∀ p ∈ l, Digs W p.1 p.2
theorem Facts.nil (W : World) : Facts W [] := by intro p hp; cases hp
theorem Facts.get {W : World} {l : List (Value × List Nat)} (F : Facts W l) {v : Value} {ds : List Nat} (h : (v, ds) ∈ l) : Digs W v ds := F _ h
theorem Facts.cons {W : World} {l : List (Value × List Nat)} (F : Facts W l) {v : Value} {ds : List Nat} (h : Digs W v ds) : Facts W ((v, ds) :: l) := by
  intro p hp
  rcases List.mem_cons.1 hp with rfl | hp
  · exact h
  · exact F p hp
theorem Facts.below {W W' : World} {l : List (Value × List Nat)} (F : Facts W l) (hb : Below W.heap.size W W') : Facts W' l := fun p hp => (F p hp).below hb (Nat.le_refl _)
theorem Facts.sub {W : World} {l l' : List (Value × List Nat)} (F : Facts W l) (h : ∀ p ∈ l', p ∈ l) : Facts W l' := fun p hp => F p (h p hp)

theorem len_small {ds : List Nat} (k : Nat) (hn : norm ds) (h : val ds < 4294967296 ^ k) (hk : k ≤ 1000) : ds.length ≤ 1000 := Nat.le_trans (len_of_lt hn h) hk

theorem Digs.zero {W : World} {b off cap : Nat} (h : W.cell? ⟨b, off, none⟩ = some (.int .u32 0)) (hc : 1 ≤ cap) : Digs W (.slice (some ⟨b, off, none⟩) 1 cap) [0] := by
  refine ⟨by intro x hx; simp at hx; omega, by simp, .inr ⟨b, off, cap, rfl, hc, ?_⟩⟩
  intro j hj
  obtain rfl : j = 0 := by simp at hj; omega
  simpa using h
theorem norm_01 : norm [0, 1] := rfl
theorem norm_001 : norm [0, 0, 1] := rfl
theorem is_01 {ds : List Nat} (hs : small ds) (hn : norm ds) (hv : val ds = 4294967296) : ds = [0, 1] :=
  val_inj hs (by intro x hx; simp at hx; omega) hn norm_01 (by rw [hv]; rfl)
theorem is_001 {ds : List Nat} (hs : small ds) (hn : norm ds) (hv : val ds = 18446744073709551616) : ds = [0, 0, 1] :=
  val_inj hs (by intro x hx; simp at hx; omega) hn norm_001 (by rw [hv]; rfl)
theorem ord_same {x y z : Nat} (hx : x = z) (hy : y = z) : ordN x y = 0 := by rw [hx, hy]; exact ordN_eq _
theorem bl_64 {x : Nat} (h : x = 18446744073709551615) : bl x = 64 := bl_eq (by omega) (by rw [h]; decide) (by rw [h]; decide)
theorem root_is {R : Nat} (h1 : R * R ≤ 18446744073709551616) (h2 : 18446744073709551616 < (R + 1) * (R + 1)) : R = 4294967296 := by
  rcases Nat.lt_trichotomy R 4294967296 with h | h | h
  · have := Nat.mul_le_mul (show R + 1 ≤ 4294967296 by omega) (show R + 1 ≤ 4294967296 by omega); omega
  · exact h
  · have := Nat.mul_le_mul (show 4294967297 ≤ R by omega) (show 4294967297 ≤ R by omega); omega

set_option maxRecDepth 100000 in
set_option maxHeartbeats 8000000 in
theorem live_c (w : World) : Calls Try.prog 6 #[] w fun e w' => e = .returned (.bool true) ∧ Below w.heap.size w w' := by
  go_enter Try.func6, Try.ntmps6
  -- a
  go_wp2_with fail
  refine (from_c 4294967296 (by omega) _).mono ?_
  rintro e w1 ⟨⟨v1, rfl, hn⟩, hb⟩
  obtain ⟨dA, hd, nA, eA⟩ := hn.open
  obtain rfl := is_01 hd.1 nA eA
  obtain ⟨a1, c1, rfl, hc1⟩ := hd.shape
  have F := (Facts.nil w1).cons hd
  have B : Below w.heap.size w w1 := hb
  clear hn hb hd nA eA hc1
  have eA : Hid (val [0, 1] = 4294967296) := rfl
  simp only [List.length_cons, List.length_nil, Nat.zero_add, Nat.reduceAdd] at F ⊢
  -- b
  go_wp2_with fail
  refine (mul_c _ _ [0, 1] [0, 1] _ (F.get (by simp)) (F.get (by simp)) (by simp) (by simp)).mono ?_
  rintro e w2 ⟨⟨v2, rfl, hn⟩, hb⟩
  obtain ⟨dB, hd, nB, eB⟩ := hn.open
  obtain rfl := is_001 hd.1 nB (by rw [eB, eA.out])
  obtain ⟨a2, c2, rfl, hc2⟩ := hd.shape
  replace F := (F.below hb).cons hd
  replace B := B.trans (hb.mono B.size)
  clear hn hb hd nB eB hc2 
  have eB : Hid (val [0, 0, 1] = 18446744073709551616) := rfl
  simp only [List.length_cons, List.length_nil, Nat.zero_add, Nat.reduceAdd] at F ⊢
  clear w1
  -- From 7
  go_wp2_with fail
  refine (from_c 7 (by omega) _).mono ?_
  rintro e w3 ⟨⟨v3, rfl, hn⟩, hb⟩
  obtain ⟨d3, hd, n3, e3'⟩ := hn.open
  have e3 : Hid (val d3 = 7) := e3'
  have l3 := len_small 1 n3 (by rw [e3.out]; decide) (by omega)
  replace F := (F.below hb).cons hd
  replace B := B.trans (hb.mono B.size)
  clear hn hb hd e3' w2
  go_wp2_with fail
  refine (add_c _ _ [0, 0, 1] d3 _ (F.get (by simp)) (F.get (by simp)) (by simp) (by omega)).mono ?_
  rintro e w4 ⟨⟨v4, rfl, hn⟩, hb⟩
  obtain ⟨d4, hd, n4, e4'⟩ := hn.open
  have e4 : Hid (val d4 = 18446744073709551623) := by show _ = _; rw [e4', e3.out, eB.out]
  have l4 := len_small 4 n4 (by rw [e4.out]; decide) (by omega)
  replace F := (F.below hb).cons hd
  replace B := B.trans (hb.mono B.size)
  clear hn hb hd e4' w3
  go_wp2_with fail
  refine (div_c _ _ d4 [0, 1] _ (F.get (by simp)) (F.get (by simp)) (by omega) (by rw [eA.out]; omega)).mono ?_
  rintro e w5 ⟨⟨v5, v6, rfl, hn, hn2⟩, hb⟩
  obtain ⟨dQ, hd, nQ, eQ'⟩ := hn.open
  obtain ⟨dR, hd2, nR, eR'⟩ := hn2.open
  have eQ : Hid (val dQ = 4294967296) := by show _ = _; rw [eQ', e4.out, eA.out]
  have eR : Hid (val dR = 7) := by show _ = _; rw [eR', e4.out, eA.out]
  replace F := ((F.below hb).cons hd).cons hd2
  replace B := B.trans (hb.mono B.size)
  clear hn hn2 hb hd hd2 eQ' eR' w4
  -- Div by nil
  go_wp2_with fail
  refine (div_no _ _ [0, 0, 1] [] _ (F.get (by simp)) (Digs.nil _) rfl).mono ?_
  rintro e w6 ⟨rfl, hb⟩
  replace F := F.below hb
  replace B := B.trans (hb.mono B.size)
  clear hb w5
  go_wp2_with fail
  -- Shr(b, 63)
  refine (shr_c _ [0, 0, 1] 63 _ (F.get (by simp)) (by simp) (by omega) (by omega)).mono ?_
  rintro e w7 ⟨⟨v7, rfl, hn⟩, hb⟩
  obtain ⟨dS, hd, nS, eS'⟩ := hn.open
  have eS : Hid (val dS = 2) := by show _ = _; rw [eS', eB.out]; rfl
  rw [show decide (val [0, 0, 1] % 2 ^ (63 : Int).toNat = 0) = true by rw [eB.out]; rfl]
  replace F := (F.below hb).cons hd
  replace B := B.trans (hb.mono B.size)
  clear hn hb hd eS' w6
  -- From 3, Shr 1
  go_wp2_with fail
  refine (from_c 3 (by omega) _).mono ?_
  rintro e w8 ⟨⟨v8, rfl, hn⟩, hb⟩
  obtain ⟨d8, hd, n8, e8'⟩ := hn.open
  have e8 : Hid (val d8 = 3) := e8'
  have l8 := len_small 1 n8 (by rw [e8.out]; decide) (by omega)
  replace F := (F.below hb).cons hd
  replace B := B.trans (hb.mono B.size)
  clear hn hb hd e8' w7
  go_wp2_with fail
  refine (shr_c _ d8 1 _ (F.get (by simp)) (by omega) (by omega) (by omega)).mono ?_
  rintro e w9 ⟨⟨v9, rfl, hn⟩, hb⟩
  clear hn
  rw [show decide (val d8 % 2 ^ (1 : Int).toNat = 0) = false by rw [e8.out]; rfl]
  replace F := F.below hb
  replace B := B.trans (hb.mono B.size)
  clear hb w8
  -- Sub(b, 1)
  go_wp2_with fail
  refine (from_c 1 (by omega) _).mono ?_
  rintro e w10 ⟨⟨v10, rfl, hn⟩, hb⟩
  obtain ⟨d10, hd, n10, e10'⟩ := hn.open
  have e10 : Hid (val d10 = 1) := e10'
  have l10 := len_small 1 n10 (by rw [e10.out]; decide) (by omega)
  replace F := (F.below hb).cons hd
  replace B := B.trans (hb.mono B.size)
  clear hn hb hd e10' w9
  go_wp2_with fail
  refine (sub_yes _ _ [0, 0, 1] d10 _ (F.get (by simp)) (F.get (by simp)) (by simp) (by omega) (by rw [eB.out, e10.out]; omega)).mono ?_
  rintro e w11 ⟨⟨v11, rfl, hn⟩, hb⟩
  obtain ⟨dD, hd, nD, eD'⟩ := hn.open
  have eD : Hid (val dD = 18446744073709551615) := by show _ = _; rw [eD', eB.out, e10.out]
  replace F := (F.below hb).cons hd
  replace B := B.trans (hb.mono B.size)
  clear hn hb hd eD' w10
  -- Sub(1, b)
  go_wp2_with fail
  refine (from_c 1 (by omega) _).mono ?_
  rintro e w12 ⟨⟨v12, rfl, hn⟩, hb⟩
  obtain ⟨d12, hd, n12, e12'⟩ := hn.open
  have e12 : Hid (val d12 = 1) := e12'
  replace F := (F.below hb).cons hd
  replace B := B.trans (hb.mono B.size)
  clear hn hb hd e12' w11
  go_wp2_with fail
  refine (sub_no _ _ d12 [0, 0, 1] _ (F.get (by simp)) (F.get (by simp)) (by rw [eB.out, e12.out]; omega)).mono ?_
  rintro e w13 ⟨rfl, hb⟩
  replace F := F.below hb
  replace B := B.trans (hb.mono B.size)
  clear hb w12
  -- Low
  go_wp2_with fail
  refine (low_c _ [0, 1] _ (F.get (by simp)) (by rw [eA.out]; omega)).mono ?_
  rintro e w14 ⟨rfl, hb⟩
  rw [eA.out]
  replace F := F.below hb
  replace B := B.trans (hb.mono B.size)
  clear hb w13
  go_wp2_with fail
  refine (low_no _ [0, 0, 1] _ (F.get (by simp)) (by rw [eB.out]; omega)).mono ?_
  rintro e w15 ⟨rfl, hb⟩
  replace F := F.below hb
  replace B := B.trans (hb.mono B.size)
  clear hb w14
  -- the tests
  go_wp2_with fail
  refine (cmp_c _ _ dQ [0, 1] _ (F.get (by simp)) (F.get (by simp))).mono ?_
  rintro e w16 ⟨rfl, hb⟩
  rw [ord_same eQ.out eA.out]
  replace F := F.below hb
  replace B := B.trans (hb.mono B.size)
  clear hb w15
  go_wp2_with fail
  refine (from_c 7 (by omega) _).mono ?_
  rintro e w17 ⟨⟨v17, rfl, hn⟩, hb⟩
  obtain ⟨d17, hd, n17, e17'⟩ := hn.open
  have e17 : Hid (val d17 = 7) := e17'
  replace F := (F.below hb).cons hd
  replace B := B.trans (hb.mono B.size)
  clear hn hb hd e17' w16
  go_wp2_with fail
  refine (cmp_c _ _ dR d17 _ (F.get (by simp)) (F.get (by simp))).mono ?_
  rintro e w18 ⟨rfl, hb⟩
  rw [ord_same eR.out e17.out]
  replace F := F.below hb
  replace B := B.trans (hb.mono B.size)
  clear hb w17
  go_wp2_with fail
  refine (from_c 2 (by omega) _).mono ?_
  rintro e w19 ⟨⟨v19, rfl, hn⟩, hb⟩
  obtain ⟨d19, hd, n19, e19'⟩ := hn.open
  have e19 : Hid (val d19 = 2) := e19'
  replace F := (F.below hb).cons hd
  replace B := B.trans (hb.mono B.size)
  clear hn hb hd e19' w18
  go_wp2_with fail
  refine (cmp_c _ _ dS d19 _ (F.get (by simp)) (F.get (by simp))).mono ?_
  rintro e w20 ⟨rfl, hb⟩
  rw [ord_same eS.out e19.out]
  replace F := F.below hb
  replace B := B.trans (hb.mono B.size)
  clear hb w19
  go_wp2_with fail
  refine (len_c _ dD _ (F.get (by simp))).mono ?_
  rintro e w21 ⟨rfl, hb⟩
  rw [bl_64 eD.out]
  replace F := F.below hb
  replace B := B.trans (hb.mono B.size)
  clear hb w20
  go_wp2_with fail
  refine (root_c _ [0, 0, 1] _ (F.get (by simp)) (by simp) (by rw [eB.out]; omega)).mono ?_
  rintro e w22 ⟨⟨v22, R, rfl, hn, hR1, hR2⟩, hb⟩
  rw [eB.out] at hR1 hR2
  obtain rfl := root_is hR1 hR2
  obtain ⟨dT, hd, nT, eT'⟩ := hn.open
  have eT : Hid (val dT = 4294967296) := eT'
  replace F := (F.below hb).cons hd
  replace B := B.trans (hb.mono B.size)
  clear hn hb hd eT' w21 hR1 hR2
  go_wp2_with fail
  refine (cmp_c _ _ dT [0, 1] _ (F.get (by simp)) (F.get (by simp))).mono ?_
  rintro e w23 ⟨rfl, hb⟩
  rw [ord_same eT.out eA.out]
  replace F := F.below hb
  replace B := B.trans (hb.mono B.size)
  clear hb w22
  go_wp2_with fail
  refine (len_c _ [] _ (Digs.nil _)).mono ?_
  rintro e w24 ⟨rfl, hb⟩
  rw [show bl (val []) = 0 from rfl]
  replace F := F.below hb
  replace B := B.trans (hb.mono B.size)
  clear hb w23
  go_wp2_with fail
  refine (check_c _ [0, 1] _ (F.get (by simp))).mono ?_
  rintro e w25 ⟨rfl, hb⟩
  rw [show normB [0, 1] = true from rfl]
  replace F := F.below hb
  replace B := B.trans (hb.mono B.size)
  clear hb w24
  go_wp2_with fail
  -- Check of one digit 0
  have hz : Digs (w25.alloc (.cells #[.int .u32 0] 42)) (.slice (some ⟨w25.heap.size, 0, none⟩) 1 1) [0] := Digs.zero (cell_new _ _ _) (Nat.le_refl _)
  have hbz : Below w25.heap.size w25 (w25.alloc (.cells #[.int .u32 0] 42)) := Below.alloc (Below.refl _ _) (Nat.le_refl _) _
  generalize w25.alloc (.cells #[.int .u32 0] 42) = w26 at *
  replace F := F.below hbz
  replace B := B.trans (hbz.mono B.size)
  clear hbz
  refine (check_c _ [0] _ hz).mono ?_
  rintro e w27 ⟨rfl, hb⟩
  rw [show normB [0] = false from rfl]
  replace F := F.below hb
  replace B := B.trans (hb.mono B.size)
  clear hb hz w26
  go_wp2_with fail
  refine (from_c 1 (by omega) _).mono ?_
  rintro e w28 ⟨⟨v28, rfl, hn⟩, hb⟩
  obtain ⟨d28, hd, n28, e28'⟩ := hn.open
  have e28 : Hid (val d28 = 1) := e28'
  have l28 := len_small 1 n28 (by rw [e28.out]; decide) (by omega)
  replace F := (F.below hb).cons hd
  replace B := B.trans (hb.mono B.size)
  clear hn hb hd e28' w27
  go_wp2_with fail
  refine (shl_c _ d28 64 _ (F.get (by simp)) (by omega) (by omega) (by omega)).mono ?_
  rintro e w29 ⟨⟨v29, rfl, hn⟩, hb⟩
  obtain ⟨d29, hd, n29, e29'⟩ := hn.open
  have e29 : Hid (val d29 = 18446744073709551616) := by show _ = _; rw [e29', e28.out]; rfl
  replace F := (F.below hb).cons hd
  replace B := B.trans (hb.mono B.size)
  clear hn hb hd e29' w28
  go_wp2_with fail
  refine (cmp_c _ _ d29 [0, 0, 1] _ (F.get (by simp)) (F.get (by simp))).mono ?_
  rintro e w30 ⟨rfl, hb⟩
  rw [ord_same e29.out eB.out]
  replace B := B.trans (hb.mono B.size)
  clear hb w29 F
  go_wp2
  go_ret
  exact ⟨rfl, B⟩
end Go.Proofs.Ytceonncbflmciaa
