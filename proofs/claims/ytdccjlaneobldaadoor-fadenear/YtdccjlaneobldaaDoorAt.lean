/- tri.Size. -/
import Derived.Test.YtdccjlaneobldaaDoorRows1
namespace Go.Proofs.YtdccjlaneobldaaDoor
open Go.RowKit Go.Shelf
attribute [local go_sem] Oper.semAt_some

/-- How many entries a triangle has. -/
def sizeZ (c : Int) : Int := if 1 ≤ c ∧ c ≤ 6 then (c + 1) * (c + 2) / 2 else 0
theorem sizeZ_no {c : Int} (h : ¬ (1 ≤ c ∧ c ≤ 6)) : sizeZ c = 0 := by unfold sizeZ; rw [if_neg h]
theorem six {c : Int} (h : 1 ≤ c ∧ c ≤ 6) : c = 1 ∨ c = 2 ∨ c = 3 ∨ c = 4 ∨ c = 5 ∨ c = 6 := by omega
theorem sizeZ_pos {c : Int} (h : 1 ≤ c ∧ c ≤ 6) : 3 ≤ sizeZ c ∧ sizeZ c ≤ 28 := by
  rcases six h with rfl | rfl | rfl | rfl | rfl | rfl <;> decide

set_option maxHeartbeats 400000 in
theorem size_c (c : Int) (w : World) : Calls Tryd.prog 51 #[.int .i64 c] w fun e w' => e = .returned (.int .i64 (sizeZ c)) ∧ w' = w := by
  by_cases h1 : c < 1
  · rw [sizeZ_no (by omega)]
    go_enter Tryd.func51, Tryd.ntmps51
    go_wp2
    go_ret
    exact ⟨rfl, rfl⟩
  · by_cases h6 : 6 < c
    · rw [sizeZ_no (by omega)]
      go_enter Tryd.func51, Tryd.ntmps51
      go_wp2
      go_ret
      exact ⟨rfl, rfl⟩
    · rcases six (c := c) (by omega) with rfl | rfl | rfl | rfl | rfl | rfl
      all_goals
        clear h1 h6
        go_enter Tryd.func51, Tryd.ntmps51
        go_wp2
        go_ret
        exact ⟨rfl, rfl⟩

/-- Whether there is a place. -/
abbrev inTri (c i j : Int) : Prop := (1 ≤ c ∧ c ≤ 6) ∧ 0 ≤ i ∧ i ≤ j ∧ j ≤ c

end Go.Proofs.YtdccjlaneobldaaDoor
