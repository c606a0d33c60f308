/- levellingref07.Size, .At. -/
import Derived.Test.YtdccjlaneobldaaDoorCheck
namespace Go.Proofs.YtdccjlaneobldaaDoor
open Go.RowKit Go.Shelf

set_option maxHeartbeats 400000 in
theorem rsize_c (c : Int) (w : World) : Calls Tryd.prog 40 #[.int .i64 c] w fun e w' => e = .returned (.int .i64 (sizeZ c)) ∧ w' = w := by
  by_cases h1 : c < 1
  · rw [sizeZ_no (by omega)]
    go_enter Tryd.func40, Tryd.ntmps40
    go_wp2
    go_ret
    exact ⟨rfl, rfl⟩
  · by_cases h6 : 6 < c
    · rw [sizeZ_no (by omega)]
      go_enter Tryd.func40, Tryd.ntmps40
      go_wp2
      go_ret
      exact ⟨rfl, rfl⟩
    · rcases six (c := c) (by omega) with rfl | rfl | rfl | rfl | rfl | rfl
      all_goals
        clear h1 h6
        go_enter Tryd.func40, Tryd.ntmps40
        go_wp2
        go_ret
        exact ⟨rfl, rfl⟩

theorem ret_two {a b : Int} {p : Bool} (h : a = b) : Ending.returned (.tuple #[.int .i64 a, .bool p]) = .returned (.tuple #[.int .i64 b, .bool p]) := by rw [h]

set_option maxRecDepth 100000 in
set_option maxHeartbeats 1000000 in
theorem rat_no (c i j : Int) (w : World) (h : ¬ inTri c i j) :
    Calls Tryd.prog 42 #[.int .i64 c, .int .i64 i, .int .i64 j] w fun e w' => e = .returned (.tuple #[.int .i64 0, .bool false]) ∧ w' = w := by
  by_cases hc : 1 ≤ c ∧ c ≤ 6
  · have hs := (sizeZ_pos hc).1
    have hs' : (sizeZ c == 0) = false := by simp; omega
    clear hs
    by_cases hi : i < 0
    · clear h
      go_enter Tryd.func42, Tryd.ntmps42
      go_wp2_with (go_at_call 40; refine (rsize_c _ _).mono ?_; rintro e w' ⟨rfl, rfl⟩)
      go_ret2
      exact ⟨rfl, rfl⟩
    by_cases hj : j < i
    · clear h
      go_enter Tryd.func42, Tryd.ntmps42
      go_wp2_with (go_at_call 40; refine (rsize_c _ _).mono ?_; rintro e w' ⟨rfl, rfl⟩)
      go_ret2
      exact ⟨rfl, rfl⟩
    have hk : c < j := by omega
    clear h
    go_enter Tryd.func42, Tryd.ntmps42
    go_wp2_with (go_at_call 40; refine (rsize_c _ _).mono ?_; rintro e w' ⟨rfl, rfl⟩)
    go_ret2
    exact ⟨rfl, rfl⟩
  · have hs' : (sizeZ c == 0) = true := by rw [sizeZ_no hc]; rfl
    clear h
    go_enter Tryd.func42, Tryd.ntmps42
    go_wp2_with (go_at_call 40; refine (rsize_c _ _).mono ?_; rintro e w' ⟨rfl, rfl⟩)
    go_ret2
    exact ⟨rfl, rfl⟩

set_option maxRecDepth 100000 in
set_option maxHeartbeats 1000000 in
theorem rat_yes (n i j : Nat) (w : World) (hn1 : 1 ≤ n) (hn6 : n ≤ 6) (hij : i ≤ j) (hjn : j ≤ n) :
    Calls Tryd.prog 42 #[.int .i64 (n : Int), .int .i64 (i : Int), .int .i64 (j : Int)] w fun e w' => e = .returned (.tuple #[.int .i64 ((place n i + (j - i) : Nat) : Int), .bool true]) ∧ w' = w := by
  have hs := (sizeZ_pos (c := (n : Int)) (by omega)).1
  have hs' : (sizeZ (n : Int) == 0) = false := by simp; omega
  clear hs
  obtain ⟨R, HR⟩ : ∃ R, Hid (R = place n i + (j - i)) := ⟨_, rfl⟩
  rw [← HR.out]
  go_enter Tryd.func42, Tryd.ntmps42
  go_wp2_with (go_at_call 40; refine (rsize_c _ _).mono ?_; rintro e w' ⟨rfl, rfl⟩)
  go_loop [8, 9] (fun k r => ∃ row : Nat, row ≤ i ∧ r = .int .i64 (row : Int) ∧ k = .int .i64 (place n row : Int)) (fun _ r => i - (intOf r).toNat)
  case atStart => exact ⟨0, by omega, by simp, by simp [place]⟩
  case round =>
    obtain ⟨row, hrow, rfl, rfl⟩ := hrel
    have hps := place_small n row hn6 (by omega)
    by_cases hlt : row < i
    · obtain ⟨p, HP⟩ : ∃ p, Hid (place n row = p) := ⟨_, rfl⟩
      rw [HP.out] at hps ⊢
      have HQ : Hid (place n (row + 1) = p + (n + 1 - row)) := by show _ = _; rw [← HP.out]; rfl
      go_wp2
      go_round
      case rel => exact ⟨row + 1, by omega, by go_num, by rw [HQ.out]; go_num⟩
      case measure => simp [intOf]; omega
    · obtain rfl : row = i := by omega
      go_wp2
      go_ret2
      exact ⟨ret_two (by have := HR.out; omega), rfl⟩
end Go.Proofs.YtdccjlaneobldaaDoor
