/- levellinglaw07.TriPlaces: the walk. -/
import Derived.Test.YtaglfndhgdolfaaDoorLive
namespace Go.Proofs.YtaglfndhgdolfaaDoor
open Go.RowKit Go.Shelf

theorem at_any (c i j : Int) (w : World) : Calls Tryd.prog 10 #[.int .i64 c, .int .i64 i, .int .i64 j] w fun e w' => (∃ k : Int, e = .returned (.tuple #[.int .i64 k, .bool (decide (inTri c i j))])) ∧ Below w.heap.size w w' := by
  by_cases h : inTri c i j
  · rw [decide_eq_true h]
    obtain ⟨n, a, b, rfl, rfl, rfl, h1, h6, hij, hjn⟩ := inTri_nat h
    exact (at_yes n a b w h1 h6 hij hjn).mono fun e w' ⟨he, hb⟩ => ⟨⟨_, he⟩, hb⟩
  · rw [decide_eq_false h]
    exact (at_no c i j w h).mono fun e w' ⟨he, hb⟩ => ⟨⟨_, he⟩, hb⟩

theorem place_total : ∀ n, n ≤ 6 → place n (n + 1) = (n + 1) * (n + 2) / 2 := by decide

set_option maxRecDepth 100000 in
set_option maxHeartbeats 4000000 in
theorem places_walk (c i j : Int) (w : World) (hT : Tab w) :
    Calls Tryd.prog 5 #[.int .i64 c, .int .i64 i, .int .i64 j] w fun e w' => e = .returned (.bool true) ∧ Below w.heap.size w w' := by
  by_cases hc : 1 ≤ c ∧ c ≤ 6
  · obtain ⟨n, rfl⟩ : ∃ n : Nat, c = (n : Int) := ⟨c.toNat, by omega⟩
    have hn1 : 1 ≤ n := by omega
    have hn6 : n ≤ 6 := by omega
    obtain ⟨I, HI⟩ : ∃ I, Hid (decide (inTri n i j) = I) := ⟨_, rfl⟩
    have HI2 : Hid (I = (decide (0 ≤ i) && decide (i ≤ j) && decide (j ≤ (n : Int)))) := by
      show _ = _
      rw [← HI.out]
      unfold inTri
      by_cases a : 0 ≤ i <;> by_cases b : i ≤ j <;> by_cases d : j ≤ (n : Int) <;> simp [a, b, d] <;> omega
    have hc1 : ¬ (n : Int) < 1 := by omega
    have hc6 : ¬ (6 : Int) < (n : Int) := by omega
    clear hc
    go_enter Tryd.func5, Tryd.ntmps5
    go_wp2_with fail
    refine (at_any n i j _).mono ?_
    rw [HI.out]
    rintro e w1 ⟨⟨k0, rfl⟩, hb⟩
    have B1 : Below w.heap.size w w1 := hb
    clear hb
    go_wp2_with fail
    go_loopw [9, 10] (fun k r wr => ∃ row : Nat, row ≤ n + 1 ∧ r = .int .i64 (row : Int) ∧ k = .int .i64 (place n row : Int) ∧ Below w.heap.size w wr) (fun _ r _ => n + 1 - (intOf r).toNat)
    case atStart => exact ⟨0, by omega, by simp, by simp [place], B1⟩
    case round =>
      obtain ⟨row, hrow, rfl, rfl, B2⟩ := hrel
      have hps := place_small n row hn6 hrow
      by_cases hlt : row ≤ n
      · obtain ⟨p, HP⟩ : ∃ p, Hid (place n row = p) := ⟨_, rfl⟩
        rw [HP.out] at hps ⊢
        have HQ : Hid (place n (row + 1) = p + (n + 1 - row)) := by show _ = _; rw [← HP.out]; rfl
        go_wp2_with fail
        go_loopw [9, 11] (fun k c wr => ∃ col : Nat, row ≤ col ∧ col ≤ n + 1 ∧ c = .int .i64 (col : Int) ∧ k = .int .i64 ((p + (col - row) : Nat) : Int) ∧ Below w.heap.size w wr) (fun _ c _ => n + 1 - (intOf c).toNat)
        case atStart => exact ⟨row, Nat.le_refl _, hrow, rfl, by simp, B2⟩
        case round =>
          obtain ⟨col, hrc, hcol, rfl, rfl, B3⟩ := hrel
          by_cases hlc : col ≤ n
          · obtain ⟨q, HQ2⟩ : ∃ q, Hid (p + (col - row) = q) := ⟨_, rfl⟩
            have hq : q ≤ 60 := by rw [← HQ2.out]; omega
            rw [HQ2.out]
            go_wp2_with fail
            refine (at_yes n row col _ hn1 hn6 hrc hlc).mono ?_
            rw [HP.out, HQ2.out]
            rintro e w4 ⟨rfl, hb⟩
            have B4 := B3.trans (hb.mono B3.size)
            clear hb
            go_wp2_with fail
            go_roundw
            case rel => exact ⟨col + 1, by omega, by omega, by go_num, by have := HQ2.out; rw [show p + (col + 1 - row) = q + 1 by omega]; go_num, B4⟩
            case measure => simp [intOf]; omega
          · obtain rfl : col = n + 1 := by omega
            go_wp2_with fail
            go_roundw
            case rel => exact ⟨row + 1, by omega, by go_num, by rw [HQ.out], B3⟩
            case measure => simp [intOf]; omega
      · obtain rfl : row = n + 1 := by omega
        have HS : Hid (sizeZ (n : Int) = (place n (n + 1) : Int)) := by show _ = _; rw [sizeZ_nat n hn1 hn6, place_total n hn6]
        have B3 := B2
        obtain ⟨p, HP⟩ : ∃ p, Hid (place n (n + 1) = p) := ⟨_, rfl⟩
        rw [HP.out] at HS hps ⊢
        by_cases a : 0 ≤ i
        · by_cases b : i ≤ j
          · by_cases d : j ≤ (n : Int)
            · obtain rfl : I = true := by rw [HI2.out]; simp [a, b, d]
              go_wp2_with fail
              refine (size_c _ _).mono ?_
              rintro e w4 ⟨rfl, rfl⟩
              rw [HS.out]
              go_wp2_with fail
              refine (live_c _ (hT.below B3)).mono ?_
              rintro e w5 ⟨rfl, hb⟩
              go_wp2
              go_ret
              exact ⟨rfl, B3.trans (hb.mono B3.size)⟩
            · obtain rfl : I = false := by rw [HI2.out]; simp [d]
              go_wp2_with fail
              refine (size_c _ _).mono ?_
              rintro e w4 ⟨rfl, rfl⟩
              rw [HS.out]
              go_wp2_with fail
              refine (live_c _ (hT.below B3)).mono ?_
              rintro e w5 ⟨rfl, hb⟩
              go_wp2
              go_ret
              exact ⟨ret_bool (by simp [d]), B3.trans (hb.mono B3.size)⟩
          · obtain rfl : I = false := by rw [HI2.out]; simp [b]
            go_wp2_with fail
            refine (size_c _ _).mono ?_
            rintro e w4 ⟨rfl, rfl⟩
            rw [HS.out]
            go_wp2_with fail
            refine (live_c _ (hT.below B3)).mono ?_
            rintro e w5 ⟨rfl, hb⟩
            go_wp2
            go_ret
            exact ⟨rfl, B3.trans (hb.mono B3.size)⟩
        · obtain rfl : I = false := by rw [HI2.out]; simp [a]
          go_wp2_with fail
          refine (size_c _ _).mono ?_
          rintro e w4 ⟨rfl, rfl⟩
          rw [HS.out]
          go_wp2_with fail
          refine (live_c _ (hT.below B3)).mono ?_
          rintro e w5 ⟨rfl, hb⟩
          go_wp2
          go_ret
          exact ⟨rfl, B3.trans (hb.mono B3.size)⟩
  · have HI : Hid (decide (inTri c i j) = false) := decide_eq_false (fun h => hc h.1)
    have hs : (sizeZ c == 0) = true := by rw [sizeZ_no hc]; rfl
    have hcc : c < 1 ∨ (¬ c < 1 ∧ 6 < c) := by omega
    clear hc
    rcases hcc with h1 | ⟨h1, h6⟩
    all_goals
      go_enter Tryd.func5, Tryd.ntmps5
      go_wp2_with fail
      refine (at_any c i j _).mono ?_
      rw [HI.out]
      rintro e w1 ⟨⟨k0, rfl⟩, hb⟩
      have B1 : Below w.heap.size w w1 := hb
      clear hb
      go_wp2_with fail
      refine (size_c _ _).mono ?_
      rintro e w4 ⟨rfl, rfl⟩
      go_wp2_with fail
      refine (live_c _ (hT.below B1)).mono ?_
      rintro e w5 ⟨rfl, hb⟩
      go_wp2
      go_ret
      exact ⟨rfl, B1.trans (hb.mono B1.size)⟩
end Go.Proofs.YtaglfndhgdolfaaDoor
