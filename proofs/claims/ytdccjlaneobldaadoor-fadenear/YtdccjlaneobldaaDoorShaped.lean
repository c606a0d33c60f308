/- tri.shaped, tri.unsigned. -/
import Derived.Test.YtdccjlaneobldaaDoorAt
import Derived.Test.YtdccjlaneobldaaDoorBounded
namespace Go.Proofs.YtdccjlaneobldaaDoor
open Go.RowKit Go.Shelf
attribute [local go_sem] Oper.semAt_some

/-- A factor as a value. -/
abbrev fv (c : Int) (sv : Value) (r t : Int) : Value := .agg #[.int .i64 c, sv, .int .i64 r, .int .i64 t]
abbrev fcells (c : Int) (sv : Value) (r t : Int) : Obj := .cells #[.int .i64 c, sv, .int .i64 r, .int .i64 t] 24

/-- Whether the columns are such, and the entries as many. -/
def shapeB (c : Int) (xs : List Nat) : Bool := decide ((1 ≤ c ∧ c ≤ 6) ∧ (xs.length : Int) = sizeZ c)

set_option maxRecDepth 100000 in
set_option maxHeartbeats 1000000 in
theorem shaped_c (c r t : Int) (sv : Value) (xs : List Nat) (w : World) (hF : Fls w sv xs) :
    Calls Tryd.prog 31 #[fv c sv r t] w fun e w' => e = .returned (.bool (shapeB c xs)) ∧ Below w.heap.size w w' := by
  obtain ⟨a, cap, rfl, hcap⟩ := hF.shape
  have hl := hF.2.1
  have hB : Below w.heap.size w (w.alloc (fcells c (.slice a xs.length cap) r t)) := (Below.refl _ w).alloc (Nat.le_refl _) _
  by_cases hc : 1 ≤ c ∧ c ≤ 6
  · have hs := (sizeZ_pos hc).1
    have hs' : (sizeZ c != 0) = true := by simp; omega
    by_cases he : (xs.length : Int) = sizeZ c
    · have HS : Hid (shapeB c xs = true) := by show _ = _; unfold shapeB; exact decide_eq_true ⟨hc, he⟩
      have he' : ((xs.length : Int) == sizeZ c) = true := by simp [he]
      clear hs he hc
      go_enter Tryd.func31, Tryd.ntmps31
      go_wp2_with (go_at_call 51; refine (size_c _ _).mono ?_; rintro e w' ⟨rfl, rfl⟩)
      go_ret
      exact ⟨ret_bool HS.out.symm, hB⟩
    · have HS : Hid (shapeB c xs = false) := by show _ = _; unfold shapeB; exact decide_eq_false (fun h => he h.2)
      have he' : ((xs.length : Int) == sizeZ c) = false := by simp [he]
      clear hs he hc
      go_enter Tryd.func31, Tryd.ntmps31
      go_wp2_with (go_at_call 51; refine (size_c _ _).mono ?_; rintro e w' ⟨rfl, rfl⟩)
      go_ret
      exact ⟨ret_bool HS.out.symm, hB⟩
  · have HS : Hid (shapeB c xs = false) := by show _ = _; unfold shapeB; exact decide_eq_false (fun h => hc h.1)
    have hs' : (sizeZ c != 0) = false := by rw [sizeZ_no hc]; rfl
    clear hc
    go_enter Tryd.func31, Tryd.ntmps31
    go_wp2_with (go_at_call 51; refine (size_c _ _).mono ?_; rintro e w' ⟨rfl, rfl⟩)
    go_ret
    exact ⟨ret_bool HS.out.symm, hB⟩
end Go.Proofs.YtdccjlaneobldaaDoor
