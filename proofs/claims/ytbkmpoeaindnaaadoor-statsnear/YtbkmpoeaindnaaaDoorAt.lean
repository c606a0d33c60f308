/- tri.Size and tri.At. -/
import Derived.Test.YtbkmpoeaindnaaaDoorRows1
namespace Go.Proofs.YtbkmpoeaindnaaaDoor
open Go.RowKit Go.Shelf
attribute [local go_sem] Oper.semAt_some

/-- How many entries a triangle has. -/
def sizeZ (c : Int) : Int := if 1 ≤ c ∧ c ≤ 6 then (c + 1) * (c + 2) / 2 else 0
theorem sizeZ_no {c : Int} (h : ¬ (1 ≤ c ∧ c ≤ 6)) : sizeZ c = 0 := by unfold sizeZ; rw [if_neg h]
theorem six {c : Int} (h : 1 ≤ c ∧ c ≤ 6) : c = 1 ∨ c = 2 ∨ c = 3 ∨ c = 4 ∨ c = 5 ∨ c = 6 := by omega
theorem sizeZ_pos {c : Int} (h : 1 ≤ c ∧ c ≤ 6) : 3 ≤ sizeZ c ∧ sizeZ c ≤ 28 := by
  rcases six h with rfl | rfl | rfl | rfl | rfl | rfl <;> decide

set_option maxHeartbeats 400000 in
theorem size_c (c : Int) (w : World) : Calls Tryd.prog 74 #[.int .i64 c] w fun e w' => e = .returned (.int .i64 (sizeZ c)) ∧ w' = w := by
  by_cases h1 : c < 1
  · rw [sizeZ_no (by omega)]
    go_enter Tryd.func74, Tryd.ntmps74
    go_wp2
    go_ret
    exact ⟨rfl, rfl⟩
  · by_cases h6 : 6 < c
    · rw [sizeZ_no (by omega)]
      go_enter Tryd.func74, Tryd.ntmps74
      go_wp2
      go_ret
      exact ⟨rfl, rfl⟩
    · rcases six (c := c) (by omega) with rfl | rfl | rfl | rfl | rfl | rfl
      all_goals
        clear h1 h6
        go_enter Tryd.func74, Tryd.ntmps74
        go_wp2
        go_ret
        exact ⟨rfl, rfl⟩

/-- Whether there is a place. -/
abbrev inTri (c i j : Int) : Prop := (1 ≤ c ∧ c ≤ 6) ∧ 0 ≤ i ∧ i ≤ j ∧ j ≤ c

set_option maxRecDepth 100000 in
set_option maxHeartbeats 1000000 in
theorem at_no_in (m : Nat) (_hm : 3 ≤ m) (c i j : Int) (w : World) (h : ¬ inTri c i j) :
    CallsIn Fence.wide m Tryd.prog 82 #[.int .i64 c, .int .i64 i, .int .i64 j] w fun e w' => e = .returned (.tuple #[.int .i64 0, .bool false]) ∧ Below w.heap.size w w' := by
  have h1 : 1 ≤ m := by omega
  have hro : Fence.wide.round = none := rfl
  refine callsIn_of_wp_marks Tryd.func82 rfl trivial ?_ hro
  simp only [Tryd.ntmps82, List.size_toArray, List.length_cons, List.length_nil, Nat.reduceAdd, Nat.reduceSub, Array.replicate_succ, Array.replicate_zero, List.push_toArray, List.append_toArray, List.nil_append, List.cons_append]
  have hB : Below w.heap.size w ((((w.alloc (.cells #[.int .i64 i] 3)).alloc (.cells #[.int .i64 j] 3)).alloc (.cells #[.int .i64 0] 3)).alloc (.cells #[.bool false] 4)) :=
    ((((Below.refl _ w).alloc (Nat.le_refl _) _).alloc (by simp) _).alloc (by simp; omega) _).alloc (by simp; omega) _
  by_cases hc : 1 ≤ c ∧ c ≤ 6
  · have hs := (sizeZ_pos hc).1
    have hs' : (sizeZ c == 0) = false := by simp; omega
    clear hs
    by_cases hi : i < 0
    · gi_wp2_with (refine ⟨trivial, ?_⟩; gi_at_call 74; refine (callsIn_wide.2 (size_c _ _)).mono ?_; rintro e w' ⟨rfl, rfl⟩)
      refine ⟨.tuple #[.int .i64 0, .bool false], ?_, rfl, hB⟩
      simp [results, Tryd.f82, go_sem]
    by_cases hj : j < i
    · gi_wp2_with (refine ⟨trivial, ?_⟩; gi_at_call 74; refine (callsIn_wide.2 (size_c _ _)).mono ?_; rintro e w' ⟨rfl, rfl⟩)
      refine ⟨.tuple #[.int .i64 0, .bool false], ?_, rfl, hB⟩
      simp [results, Tryd.f82, go_sem]
    have hk : c < j := by unfold inTri at h; omega
    gi_wp2_with (refine ⟨trivial, ?_⟩; gi_at_call 74; refine (callsIn_wide.2 (size_c _ _)).mono ?_; rintro e w' ⟨rfl, rfl⟩)
    refine ⟨.tuple #[.int .i64 0, .bool false], ?_, rfl, hB⟩
    simp [results, Tryd.f82, go_sem]
  · have hs' : (sizeZ c == 0) = true := by rw [sizeZ_no hc]; rfl
    gi_wp2_with (refine ⟨trivial, ?_⟩; gi_at_call 74; refine (callsIn_wide.2 (size_c _ _)).mono ?_; rintro e w' ⟨rfl, rfl⟩)
    refine ⟨.tuple #[.int .i64 0, .bool false], ?_, rfl, hB⟩
    simp [results, Tryd.f82, go_sem]

theorem at_no (c i j : Int) (w : World) (h : ¬ inTri c i j) :
    Calls Tryd.prog 82 #[.int .i64 c, .int .i64 i, .int .i64 j] w fun e w' => e = .returned (.tuple #[.int .i64 0, .bool false]) ∧ Below w.heap.size w w' := callsIn_wide.1 (at_no_in 3 (by omega) c i j w h)
end Go.Proofs.YtbkmpoeaindnaaaDoor
