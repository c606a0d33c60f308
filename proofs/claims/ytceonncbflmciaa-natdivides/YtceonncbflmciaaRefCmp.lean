/- levellingref02.Same and .Cmp. -/
import Derived.Test.YtceonncbflmciaaRefTrim
import Derived.BigQuiet
namespace Go.Proofs.Ytceonncbflmciaa
open Go.RowKit Go.Shelf

set_option maxRecDepth 100000 in
set_option maxHeartbeats 4000000 in
/-- levellingref02.Same, where the digits are the same. -/
theorem same_yes (va vb : Value) (A : List Nat) (w : World) (hA : Digs w va A) (hB : Digs w vb A) :
    Calls Try.prog 11 #[va, vb] w fun e w' => e = .returned (.bool true) ∧ Below w.heap.size w w' := by
  obtain ⟨aa, ca, rfl, hca⟩ := hA.shape
  obtain ⟨ab, cb, rfl, hcb⟩ := hB.shape
  have hlen := hA.2.1
  have hsm := hA.1
  go_enter Try.func11, Try.ntmps11
  go_wp2_with fail
  go_loopw [5] (fun i wr => ∃ k : Nat, k ≤ A.length ∧ i = .int .i64 (k : Int) ∧ Below w.heap.size w wr) (fun i _ => A.length - (intOf i).toNat)
  case atStart => exact ⟨0, Nat.zero_le _, rfl, Below.refl _ _⟩
  case round =>
    obtain ⟨k, hk, rfl, hb⟩ := hrel
    by_cases h : k < A.length
    · obtain ⟨b1, o1, c1, e1, hb1, hc1⟩ := hA.cell (by omega)
      obtain ⟨rfl, rfl⟩ : aa = some ⟨b1, o1, none⟩ ∧ ca = c1 := by simpa using e1
      obtain ⟨b2, o2, c2, e2, hb2, hc2⟩ := hB.cell (by omega)
      obtain ⟨rfl, rfl⟩ : ab = some ⟨b2, o2, none⟩ ∧ cb = c2 := by simpa using e2
      have hx1 := (hb.cell (p := ⟨b1, o1 + k, none⟩) hb1).trans (hc1 k h)
      have hx2 := (hb.cell (p := ⟨b2, o2 + k, none⟩) hb2).trans (hc2 k h)
      obtain ⟨x, hx⟩ : ∃ x, A[k]?.getD 0 = x := ⟨_, rfl⟩
      rw [hx] at hx1 hx2
      clear hx hc1 hc2 e1 e2 hA hB
      go_wp2_with fail
      go_quiet (fail)
      all_goals go_wp2
      exact ⟨⟨k + 1, by omega, by go_num, below_drewN hb _⟩, by simp [intOf]; omega⟩
    · obtain rfl : k = A.length := by omega
      go_wp2
      go_ret
      exact ⟨rfl, hb⟩

set_option maxRecDepth 100000 in
set_option maxHeartbeats 4000000 in
/-- levellingref02.Cmp. -/
theorem rcmp_c (va vb : Value) (A B : List Nat) (w : World) (hA : Digs w va A) (hB : Digs w vb B) :
    Calls Try.prog 31 #[va, vb] w fun e w' => e = .returned (.int .i64 (ordN (val A) (val B))) ∧ Below w.heap.size w w' := by
  have HN : Hid (ordN (val (trimL A)) (val (trimL B)) = ordN (val A) (val B)) := by show _ = _; rw [val_trimL, val_trimL]
  have nX := norm_trimL A
  have nY := norm_trimL B
  generalize ordN (val A) (val B) = O at *
  go_enter Try.func31, Try.ntmps31
  go_wp2_with fail
  refine (rtrim_c _ A _ hA).mono ?_
  rintro e w1 ⟨⟨v1, rfl, hX1⟩, hb1⟩
  go_wp2_with fail
  refine (rtrim_c _ B _ (hB.below hb1 (Nat.le_refl _))).mono ?_
  rintro e w2 ⟨⟨v2, rfl, hY⟩, hb2⟩
  have hX := hX1.below hb2 (Nat.le_refl _)
  have hbw : Below w.heap.size w w2 := hb1.trans (hb2.mono hb1.size)
  clear hb1 hb2 hX1 hA hB
  generalize trimL A = X at *
  generalize trimL B = Y at *
  obtain ⟨aa, ca, rfl, hca⟩ := hX.shape
  obtain ⟨ab, cb, rfl, hcb⟩ := hY.shape
  have hlx := hX.2.1
  have hly := hY.2.1
  have sX := hX.1
  have sY := hY.1
  by_cases hlt : X.length < Y.length
  · have hne : ¬ X.length = Y.length := by omega
    have HO : Hid (O = -1) := by show O = -1; rw [← HN.out, ordN_lt (val_lt_len sX nY hlt)]
    go_wp2
    go_ret
    exact ⟨ret_one HO.out.symm, hbw⟩
  by_cases hgt : Y.length < X.length
  · have hne : ¬ X.length = Y.length := by omega
    have HO : Hid (O = 1) := by show O = 1; rw [← HN.out, ordN_gt (val_lt_len sY nX hgt)]
    go_wp2
    go_ret
    exact ⟨ret_one HO.out.symm, hbw⟩
  have heq : X.length = Y.length := by omega
  have hbq : (((X.length : Int) == (Y.length : Int))) = true := by simp [heq]
  have HE : Hid (X.length = Y.length) := heq
  have hle1 : X.length ≤ Y.length := by omega
  have hle2 : Y.length ≤ X.length := by omega
  clear heq
  go_wp2_with fail
  go_loopw [7] (fun i wr => ∃ k : Nat, k ≤ X.length ∧ i = .int .i64 ((k : Int) - 1) ∧ Hid (∀ j : Nat, k ≤ j → X[j]?.getD 0 = Y[j]?.getD 0) ∧ Below w2.heap.size w2 wr) (fun i _ => (intOf i + 1).toNat)
  case atStart =>
    refine ⟨X.length, Nat.le_refl _, rfl, ?_, Below.refl _ _⟩
    intro j hj
    rw [List.getElem?_eq_none hj, List.getElem?_eq_none (by omega)]
  case round =>
    obtain ⟨k, hk, rfl, HI, hb⟩ := hrel
    rcases k with _ | m
    · have HO : Hid (O = 0) := by
        show O = 0
        rw [← HN.out, list_ext_getD HE.out (fun i _ => HI.out i (Nat.zero_le _)), ordN_eq]
      go_wp2
      go_ret
      exact ⟨ret_one HO.out.symm, hbw.trans (hb.mono hbw.size)⟩
    · rw [show (((m + 1 : Nat) : Int) - 1) = (m : Int) by omega]
      obtain ⟨b1, o1, c1, e1, hb1, hc1⟩ := hX.cell (by omega)
      obtain ⟨rfl, rfl⟩ : aa = some ⟨b1, o1, none⟩ ∧ ca = c1 := by simpa using e1
      obtain ⟨b2, o2, c2, e2, hb2, hc2⟩ := hY.cell (by omega)
      obtain ⟨rfl, rfl⟩ : ab = some ⟨b2, o2, none⟩ ∧ cb = c2 := by simpa using e2
      have hx1 := (hb.cell (p := ⟨b1, o1 + m, none⟩) hb1).trans (hc1 m (by omega))
      have hx2 := (hb.cell (p := ⟨b2, o2 + m, none⟩) hb2).trans (hc2 m (by omega))
      obtain ⟨x, hx⟩ : ∃ x, X[m]?.getD 0 = x := ⟨_, rfl⟩
      obtain ⟨y, hy⟩ : ∃ y, Y[m]?.getD 0 = y := ⟨_, rfl⟩
      rw [hx] at hx1
      rw [hy] at hx2
      have HX : Hid (X[m]?.getD 0 = x) := hx
      have HY : Hid (Y[m]?.getD 0 = y) := hy
      clear hx hy hc1 hc2 e1 e2 hX hY
      by_cases hxy : x < y
      · have HO : Hid (O = -1) := by
          show O = -1
          rw [← HN.out, ordN_lt (val_lt_at (j := m) sX HE.out (by omega) (fun i hi => HI.out i (by omega)) (by rw [HX.out, HY.out]; exact hxy))]
        go_wp2_with fail
        go_quiet (fail)
        all_goals go_wp2
        all_goals go_ret
        exact ⟨ret_one HO.out.symm, hbw.trans ((below_drewN hb _).mono hbw.size)⟩
      by_cases hyx : y < x
      · have HO : Hid (O = 1) := by
          show O = 1
          rw [← HN.out, ordN_gt (val_lt_at (j := m) sY HE.out.symm (by omega) (fun i hi => (HI.out i (by omega)).symm) (by rw [HX.out, HY.out]; exact hyx))]
        go_wp2_with fail
        go_quiet (fail)
        all_goals go_wp2_with fail
        all_goals go_quiet (fail)
        all_goals go_wp2
        all_goals go_ret
        exact ⟨ret_one HO.out.symm, hbw.trans ((below_drewN (below_drewN hb _) _).mono hbw.size)⟩
      · go_wp2_with fail
        go_quiet (fail)
        all_goals go_wp2_with fail
        all_goals go_quiet (fail)
        all_goals go_wp2
        refine ⟨⟨m, by omega, rfl, ?_, below_drewN hb _⟩, by simp [intOf]⟩
        intro j hj
        rcases Nat.eq_or_lt_of_le hj with h | h
        · rw [← h, HX.out, HY.out]; omega
        · exact HI.out j h
end Go.Proofs.Ytceonncbflmciaa
