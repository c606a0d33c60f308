/- levellinglaw02.NatDivides: the walk: true, and nothing that was there is written. -/
import Derived.Test.YtceonncbflmciaaRefRoot
namespace Go.Proofs.Ytceonncbflmciaa
open Go.RowKit Go.Shelf

/-- nat.Div and the plain one, at any two numbers: whether there is an answer, and the two numbers of it. -/
theorem div_any (va vb : Value) (A D : List Nat) (w : World) (hA : Digs w va A) (hB : Digs w vb D) (hla : A.length ≤ 12) :
    Calls Try.prog 18 #[va, vb] w fun e w' => (∃ v v2, e = .returned (.tuple #[v, v2, .bool (decide (0 < val D))]) ∧ Res w' v (val A / val D) ∧ Res w' v2 (if 0 < val D then val A % val D else 0)) ∧ Below w.heap.size w w' := by
  rcases Nat.eq_zero_or_pos (val D) with h | h
  · refine (div_no va vb A D w hA hB h).mono ?_
    rintro e w' ⟨rfl, hb⟩
    rw [h, Nat.div_zero]
    exact ⟨⟨_, _, rfl, Res.nil _, Res.nil _⟩, hb⟩
  · refine (div_c va vb A D w hA hB (by omega) h).mono ?_
    rintro e w' ⟨⟨v, v2, rfl, h1, h2⟩, hb⟩
    rw [decide_eq_true h, if_pos h]
    exact ⟨⟨v, v2, rfl, h1.res, h2.res⟩, hb⟩
theorem rdiv_any (va vb : Value) (A D : List Nat) (w : World) (hA : Digs w va A) (hB : Digs w vb D) (hla : A.length ≤ 12) (hlb : D.length ≤ 12) :
    Calls Try.prog 19 #[va, vb] w fun e w' => (∃ v v2, e = .returned (.tuple #[v, v2, .bool (decide (0 < val D))]) ∧ Res w' v (val A / val D) ∧ Res w' v2 (if 0 < val D then val A % val D else 0)) ∧ Below w.heap.size w w' := by
  rcases Nat.eq_zero_or_pos (val D) with h | h
  · refine (rdiv_no va vb D w hB h).mono ?_
    rintro e w' ⟨rfl, hb⟩
    rw [h, Nat.div_zero]
    exact ⟨⟨_, _, rfl, Res.nil _, Res.nil _⟩, hb⟩
  · refine (rdiv_c va vb A D w hA hB hla hlb h).mono ?_
    rintro e w' ⟨⟨v, v2, rfl, h1, h2⟩, hb⟩
    rw [decide_eq_true h, if_pos h]
    exact ⟨⟨v, v2, rfl, h1, h2⟩, hb⟩

set_option maxRecDepth 100000 in
set_option maxHeartbeats 8000000 in
theorem divides_walk (a0 : Option Addr) (len0 cap0 : Nat) (a1 : Option Addr) (len1 cap1 : Nat) (w : World) (h0 : Arg w a0 len0 cap0) (h1 : Arg w a1 len1 cap1) :
    Calls Try.prog 4 #[.slice a0 len0 cap0, .slice a1 len1 cap1] w fun e w' => e = .returned (.bool true) ∧ Below w.heap.size w w' := by
  by_cases g0 : 12 < len0
  · have g0' : (12 : Int) < (len0 : Int) := by omega
    go_enter Try.func4, Try.ntmps4
    go_wp2_with fail
    refine (live_c _).mono ?_
    rintro e w' ⟨rfl, hb⟩
    go_wp2
    go_ret
    exact ⟨rfl, hb⟩
  by_cases g1 : 12 < len1
  · have g0' : ¬ (12 : Int) < (len0 : Int) := by omega
    have g1' : (12 : Int) < (len1 : Int) := by omega
    go_enter Try.func4, Try.ntmps4
    go_wp2_with fail
    refine (live_c _).mono ?_
    rintro e w' ⟨rfl, hb⟩
    go_wp2
    go_ret
    exact ⟨rfl, hb⟩
  obtain ⟨A, hA, rfl⟩ := h0 (by omega)
  obtain ⟨D, hD, rfl⟩ := h1 (by omega)
  have g0' : ¬ (12 : Int) < (A.length : Int) := by omega
  have g1' : ¬ (12 : Int) < (D.length : Int) := by omega
  go_enter Try.func4, Try.ntmps4
  have F := ((Facts.nil w).cons hA).cons hD
  have B : Below w.heap.size w w := Below.refl _ _
  clear hA hD
  obtain ⟨b1, hb1⟩ : ∃ b, decide (0 < val D) = b := ⟨_, rfl⟩
  have HB1 : Hid (decide (0 < val D) = b1) := hb1
  clear hb1
  obtain ⟨M, hM⟩ : ∃ M, (if 0 < val D then val A % val D else 0) = M := ⟨_, rfl⟩
  have HM : Hid ((if 0 < val D then val A % val D else 0) = M) := hM
  clear hM
  go_wp2_with fail
  refine (div_any _ _ A D _ (F.get (by simp)) (F.get (by simp)) (by omega)).mono ?_
  rintro e w1 ⟨⟨v1, v2, rfl, ⟨d1, hd1, n1, e1⟩, ⟨d2, hd2, n2, e2⟩⟩, hb⟩
  rw [HB1.out]
  rw [HM.out] at e2
  replace F := ((F.below hb).cons hd1).cons hd2
  replace B := B.trans (hb.mono B.size)
  have E1 : Hid (val d1 = val A / val D) := e1
  have E2 : Hid (val d2 = M) := e2
  clear hb hd1 hd2 e1 e2
  go_wp2_with fail
  refine (rdiv_any _ _ A D _ (F.get (by simp)) (F.get (by simp)) (by omega) (by omega)).mono ?_
  rintro e w2 ⟨⟨v3, v4, rfl, ⟨d3, hd3, n3, e3⟩, ⟨d4, hd4, n4, e4⟩⟩, hb⟩
  rw [HB1.out]
  rw [HM.out] at e4
  obtain rfl : d3 = d1 := val_inj hd3.1 (F.get (v := v1) (ds := d1) (by simp)).1 n3 n1 (e3.trans E1.out.symm)
  obtain rfl : d4 = d2 := val_inj hd4.1 (F.get (v := v2) (ds := d2) (by simp)).1 n4 n2 (e4.trans E2.out.symm)
  replace F := ((F.below hb).cons hd3).cons hd4
  replace B := B.trans (hb.mono B.size)
  clear hb hd3 hd4 e3 e4 w1
  go_wp2_with fail
  refine (same_yes _ _ d3 _ (F.get (by simp)) (F.get (by simp))).mono ?_
  rintro e w3 ⟨rfl, hb⟩
  replace F := F.below hb
  replace B := B.trans (hb.mono B.size)
  clear hb w2
  go_wp2_with fail
  refine (same_yes _ _ d4 _ (F.get (by simp)) (F.get (by simp))).mono ?_
  rintro e w4 ⟨rfl, hb⟩
  replace F := F.below hb
  replace B := B.trans (hb.mono B.size)
  clear hb w3
  have hbb1 : (b1 == b1) = true := by cases b1 <;> rfl
  go_wp2_with fail
  refine (root_any _ A _ (F.get (by simp)) (by omega)).mono ?_
  rintro e w5 ⟨⟨v5, R, rfl, hn, hR1, hR2⟩, hb⟩
  obtain ⟨d5, hd5, n5, e5⟩ := hn.open
  replace F := (F.below hb).cons hd5
  replace B := B.trans (hb.mono B.size)
  have E5 : Hid (val d5 = R) := e5
  clear hb hd5 e5 hn w4
  go_wp2_with fail
  refine (rroot_c _ A _ (F.get (by simp)) (by omega)).mono ?_
  rintro e w6 ⟨⟨v6, R2, rfl, ⟨d6, hd6, n6, e6⟩, hS1, hS2⟩, hb⟩
  obtain rfl : d6 = d5 := val_inj hd6.1 (F.get (v := v5) (ds := d5) (by simp)).1 n6 n5 (e6.trans ((root_unique hS1 hS2 hR1 hR2).trans E5.out.symm))
  replace F := (F.below hb).cons hd6
  replace B := B.trans (hb.mono B.size)
  clear hb hd6 e6 w5
  go_wp2_with fail
  refine (same_yes _ _ d6 _ (F.get (by simp)) (F.get (by simp))).mono ?_
  rintro e w7 ⟨rfl, hb⟩
  replace B := B.trans (hb.mono B.size)
  clear hb F w6
  go_wp2_with fail
  refine (live_c _).mono ?_
  rintro e w8 ⟨rfl, hb⟩
  replace B := B.trans (hb.mono B.size)
  go_wp2
  go_ret
  exact ⟨rfl, B⟩
end Go.Proofs.Ytceonncbflmciaa
