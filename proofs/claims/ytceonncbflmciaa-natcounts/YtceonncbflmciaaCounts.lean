/- levellinglaw02.NatCounts: the walk: true, and nothing that was there is written. -/
import Derived.Test.YtceonncbflmciaaCountsAny
namespace Go.Proofs.Ytceonncbflmciaa
open Go.RowKit Go.Shelf

set_option maxRecDepth 100000 in
set_option maxHeartbeats 8000000 in
theorem counts_walk (a0 : Option Addr) (len0 cap0 : Nat) (a1 : Option Addr) (len1 cap1 : Nat) (k : Int) (w : World) (h0 : Arg w a0 len0 cap0) (h1 : Arg w a1 len1 cap1) :
    Calls Try.prog 3 #[.slice a0 len0 cap0, .slice a1 len1 cap1, .int .i64 k] w fun e w' => e = .returned (.bool true) ∧ Below w.heap.size w w' := by
  by_cases g0 : 60 < len0
  · have g0' : (60 : Int) < (len0 : Int) := by omega
    go_enter Try.func3, Try.ntmps3
    go_wp2_with fail
    refine (live_c _).mono ?_
    rintro e w' ⟨rfl, hb⟩
    go_wp2
    go_ret
    exact ⟨rfl, hb⟩
  by_cases g1 : 60 < len1
  · have g0' : ¬ (60 : Int) < (len0 : Int) := by omega
    have g1' : (60 : Int) < (len1 : Int) := by omega
    go_enter Try.func3, Try.ntmps3
    go_wp2_with fail
    refine (live_c _).mono ?_
    rintro e w' ⟨rfl, hb⟩
    go_wp2
    go_ret
    exact ⟨rfl, hb⟩
  obtain ⟨A, hA, rfl⟩ := h0 (by omega)
  obtain ⟨D, hD, rfl⟩ := h1 (by omega)
  have g0' : ¬ (60 : Int) < (A.length : Int) := by omega
  have g1' : ¬ (60 : Int) < (D.length : Int) := by omega
  go_enter Try.func3, Try.ntmps3
  have F := ((Facts.nil w).cons hA).cons hD
  have B : Below w.heap.size w w := Below.refl _ _
  clear hA hD
  obtain ⟨b1, hb1⟩ : ∃ b, decide (val D ≤ val A) = b := ⟨_, rfl⟩
  obtain ⟨b2, hb2⟩ : ∃ b, shrB k (val A) = b := ⟨_, rfl⟩
  have HB1 : Hid (decide (val D ≤ val A) = b1) := hb1
  have HB2 : Hid (shrB k (val A) = b2) := hb2
  clear hb1 hb2
  -- the differences
  go_wp2_with fail
  refine (sub_any _ _ A D _ (F.get (by simp)) (F.get (by simp)) (by omega) (by omega)).mono ?_
  rintro e w1 ⟨⟨v1, rfl, d1, hd1, n1, e1⟩, hb⟩
  rw [HB1.out]
  replace F := (F.below hb).cons hd1
  replace B := B.trans (hb.mono B.size)
  have E1 : Hid (val d1 = val A - val D) := e1
  clear hb hd1 e1
  go_wp2_with fail
  refine (rsub_any _ _ A D _ (F.get (by simp)) (F.get (by simp)) (by omega) (by omega)).mono ?_
  rintro e w2 ⟨⟨v2, rfl, d2, hd2, n2, e2⟩, hb⟩
  rw [HB1.out]
  obtain rfl : d2 = d1 := val_inj hd2.1 (F.get (v := v1) (ds := d1) (by simp)).1 n2 n1 (e2.trans E1.out.symm)
  replace F := (F.below hb).cons hd2
  replace B := B.trans (hb.mono B.size)
  clear hb hd2 e2 w1
  -- to the right
  go_wp2_with fail
  refine (shr_any _ A k _ (F.get (by simp)) (by omega)).mono ?_
  rintro e w3 ⟨⟨v3, rfl, d3, hd3, n3, e3⟩, hb⟩
  rw [HB2.out]
  replace F := (F.below hb).cons hd3
  replace B := B.trans (hb.mono B.size)
  have E3 : Hid (val d3 = shrN k (val A)) := e3
  clear hb hd3 e3 w2
  go_wp2_with fail
  refine (rshr_any _ A k _ (F.get (by simp)) (by omega)).mono ?_
  rintro e w4 ⟨⟨v4, rfl, d4, hd4, n4, e4⟩, hb⟩
  rw [HB2.out]
  obtain rfl : d4 = d3 := val_inj hd4.1 (F.get (v := v3) (ds := d3) (by simp)).1 n4 n3 (e4.trans E3.out.symm)
  replace F := (F.below hb).cons hd4
  replace B := B.trans (hb.mono B.size)
  clear hb hd4 e4 w3
  -- the same
  go_wp2_with fail
  refine (same_yes _ _ d2 _ (F.get (by simp)) (F.get (by simp))).mono ?_
  rintro e w5 ⟨rfl, hb⟩
  replace F := F.below hb
  replace B := B.trans (hb.mono B.size)
  clear hb w4
  have hbb1 : (b1 != b1) = false := by cases b1 <;> rfl
  have hbb2 : (b2 != b2) = false := by cases b2 <;> rfl
  go_wp2_with fail
  refine (same_yes _ _ d4 _ (F.get (by simp)) (F.get (by simp))).mono ?_
  rintro e w6 ⟨rfl, hb⟩
  replace F := F.below hb
  replace B := B.trans (hb.mono B.size)
  clear hb w5
  -- the sums
  go_wp2_with fail
  refine (add_c _ _ A D _ (F.get (by simp)) (F.get (by simp)) (by omega) (by omega)).mono ?_
  rintro e w7 ⟨⟨v7, rfl, hn⟩, hb⟩
  obtain ⟨d7, hd7, n7, e7⟩ := hn.open
  replace F := (F.below hb).cons hd7
  replace B := B.trans (hb.mono B.size)
  have E7 : Hid (val d7 = val A + val D) := e7
  clear hb hd7 e7 hn w6
  go_wp2_with fail
  refine (radd_c _ _ A D _ (F.get (by simp)) (F.get (by simp)) (by omega) (by omega)).mono ?_
  rintro e w8 ⟨⟨v8, rfl, d8, hd8, n8, e8⟩, hb⟩
  obtain rfl : d8 = d7 := val_inj hd8.1 (F.get (v := v7) (ds := d7) (by simp)).1 n8 n7 (e8.trans E7.out.symm)
  replace F := (F.below hb).cons hd8
  replace B := B.trans (hb.mono B.size)
  clear hb hd8 e8 w7
  go_wp2_with fail
  refine (same_yes _ _ d8 _ (F.get (by simp)) (F.get (by simp))).mono ?_
  rintro e w9 ⟨rfl, hb⟩
  replace F := F.below hb
  replace B := B.trans (hb.mono B.size)
  clear hb w8
  -- the products
  go_wp2_with fail
  refine (mul_c _ _ A D _ (F.get (by simp)) (F.get (by simp)) (by omega) (by omega)).mono ?_
  rintro e w10 ⟨⟨v10, rfl, hn⟩, hb⟩
  obtain ⟨d10, hd10, n10, e10⟩ := hn.open
  replace F := (F.below hb).cons hd10
  replace B := B.trans (hb.mono B.size)
  have E10 : Hid (val d10 = val A * val D) := e10
  clear hb hd10 e10 hn w9
  go_wp2_with fail
  refine (rmul_c _ _ A D _ (F.get (by simp)) (F.get (by simp)) (by omega) (by omega)).mono ?_
  rintro e w11 ⟨⟨v11, rfl, d11, hd11, n11, e11⟩, hb⟩
  obtain rfl : d11 = d10 := val_inj hd11.1 (F.get (v := v10) (ds := d10) (by simp)).1 n11 n10 (e11.trans E10.out.symm)
  replace F := (F.below hb).cons hd11
  replace B := B.trans (hb.mono B.size)
  clear hb hd11 e11 w10
  go_wp2_with fail
  refine (same_yes _ _ d11 _ (F.get (by simp)) (F.get (by simp))).mono ?_
  rintro e w12 ⟨rfl, hb⟩
  replace F := F.below hb
  replace B := B.trans (hb.mono B.size)
  clear hb w11
  -- to the left
  go_wp2_with fail
  refine (shl_any _ A k _ (F.get (by simp)) (by omega)).mono ?_
  rintro e w13 ⟨⟨v13, rfl, d13, hd13, n13, e13⟩, hb⟩
  replace F := (F.below hb).cons hd13
  replace B := B.trans (hb.mono B.size)
  have E13 : Hid (val d13 = shlN k (val A)) := e13
  clear hb hd13 e13 w12
  go_wp2_with fail
  refine (rshl_any _ A k _ (F.get (by simp)) (by omega)).mono ?_
  rintro e w14 ⟨⟨v14, rfl, d14, hd14, n14, e14⟩, hb⟩
  obtain rfl : d14 = d13 := val_inj hd14.1 (F.get (v := v13) (ds := d13) (by simp)).1 n14 n13 (e14.trans E13.out.symm)
  replace F := (F.below hb).cons hd14
  replace B := B.trans (hb.mono B.size)
  clear hb hd14 e14 w13
  go_wp2_with fail
  refine (same_yes _ _ d14 _ (F.get (by simp)) (F.get (by simp))).mono ?_
  rintro e w15 ⟨rfl, hb⟩
  replace B := B.trans (hb.mono B.size)
  clear hb F w14
  go_wp2_with fail
  refine (live_c _).mono ?_
  rintro e w16 ⟨rfl, hb⟩
  replace B := B.trans (hb.mono B.size)
  go_wp2
  go_ret
  exact ⟨rfl, B⟩
end Go.Proofs.Ytceonncbflmciaa
