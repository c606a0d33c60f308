/- What levellinglaw07.live asks, at its numbers. -/
import Derived.Test.YtaglfndhgdolfaaDoorSetNo
import Derived.Test.YtaglfndhgdolfaaDoorRefAll
namespace Go.Proofs.YtaglfndhgdolfaaDoor
open Go.RowKit Go.Shelf

/-- Six zeros; the same with row 1 set. -/
def X0 : List Nat := [0, 0, 0, 0, 0, 0]
def X1 : List Nat := [0, 0, 0, 4617315517961601024, 13841813454723219456, 0]
theorem ck0 : checkB 2 X0 0 0 = true := by decide +kernel
theorem ck1 : checkB 2 X1 0 0 = true := by decide +kernel
theorem ck2 : checkB 2 [0, 0, 0, 13840687554816376832, 4618441417868443648, 0] 0 0 = false := by decide +kernel
theorem ck3 : checkB 2 [0, 0, 0, 9223372036854775808, 4618441417868443648, 0] 0 0 = false := by decide +kernel
theorem ck4 : checkB 0 [] 0 0 = false := by decide +kernel
theorem okX0 : okF X0 := by intro x hx; simp [X0] at hx; omega
theorem okX1 : okF X1 := by intro x hx; simp [X1] at hx; omega

theorem new_two (w : World) : Calls Tryd.prog 12 #[.int .i64 2] w fun e w' => (∃ g, e = .returned (.tuple #[fv 2 (.slice (some ⟨g, 0, none⟩) 6 6) 0 0, .int .i64 0]) ∧ w.heap.size ≤ g ∧ RowF w' g X0) ∧ Below w.heap.size w w' := new_yes 2 w (by decide) (by decide)
theorem new_seven (w : World) : Calls Tryd.prog 12 #[.int .i64 7] w fun e w' => e = .returned (.tuple #[fv 0 (.slice none 0 0) 0 0, .int .i64 1]) ∧ Below w.heap.size w w' := new_no 7 w (by decide)
theorem at_live (w : World) : Calls Tryd.prog 10 #[.int .i64 2, .int .i64 1, .int .i64 2] w fun e w' => e = .returned (.tuple #[.int .i64 4, .bool true]) ∧ Below w.heap.size w w' := at_yes 2 1 2 w (by decide) (by decide) (by decide) (by decide)
theorem at_dead (w : World) : Calls Tryd.prog 10 #[.int .i64 2, .int .i64 2, .int .i64 1] w fun e w' => e = .returned (.tuple #[.int .i64 0, .bool false]) ∧ Below w.heap.size w w' := at_no 2 2 1 w (by decide)

/-- What Set(f, 1, l) comes to. -/
theorem set_one (g cap : Nat) (lv : Value) (l : List Nat) (w : World) (hT : Tab w) (hF : Fls w (.slice (some ⟨g, 0, none⟩) 6 cap) X0) (hL : Fls w lv l) (hll : l.length = 3) :
    Calls Tryd.prog 19 #[fv 2 (.slice (some ⟨g, 0, none⟩) 6 cap) 0 0, .int .i64 1, lv] w fun e w' =>
      ((checkB 2 (setN 2 X0 1 l) 0 0 = true ∧ ∃ g' cap', e = .returned (.tuple #[fv 2 (.slice (some ⟨g', 0, none⟩) 6 cap') 0 0, .bool true]) ∧ w.heap.size ≤ g' ∧ RowX w' g' cap' (setN 2 X0 1 l)) ∨
       (checkB 2 (setN 2 X0 1 l) 0 0 = false ∧ e = .returned (.tuple #[fv 0 (.slice none 0 0) 0 0, .bool false]))) ∧ Below w.heap.size w w' :=
  set_c 2 1 0 0 _ lv X0 l w hT hF hL ck0 (by decide) hll

theorem set_good (g cap : Nat) (lv : Value) (w : World) (hT : Tab w) (hF : Fls w (.slice (some ⟨g, 0, none⟩) 6 cap) X0) (hL : Fls w lv [4621256167635550208, 4617315517961601024, 13841813454723219456]) :
    Calls Tryd.prog 19 #[fv 2 (.slice (some ⟨g, 0, none⟩) 6 cap) 0 0, .int .i64 1, lv] w fun e w' =>
      (∃ g' cap', e = .returned (.tuple #[fv 2 (.slice (some ⟨g', 0, none⟩) 6 cap') 0 0, .bool true]) ∧ w.heap.size ≤ g' ∧ RowX w' g' cap' X1) ∧ Below w.heap.size w w' := by
  have e1 : setN 2 X0 1 [4621256167635550208, 4617315517961601024, 13841813454723219456] = X1 := by decide +kernel
  refine (set_one g cap lv _ w hT hF hL rfl).mono ?_
  rw [e1, ck1]
  rintro e w' ⟨⟨_, h⟩ | ⟨h, _⟩, hb⟩
  · exact ⟨h, hb⟩
  · cases h
theorem set_bad (g cap : Nat) (lv : Value) (l : List Nat) (w : World) (hT : Tab w) (hF : Fls w (.slice (some ⟨g, 0, none⟩) 6 cap) X0) (hL : Fls w lv l) (hll : l.length = 3) (hno : checkB 2 (setN 2 X0 1 l) 0 0 = false) :
    Calls Tryd.prog 19 #[fv 2 (.slice (some ⟨g, 0, none⟩) 6 cap) 0 0, .int .i64 1, lv] w fun e w' => e = .returned (.tuple #[fv 0 (.slice none 0 0) 0 0, .bool false]) ∧ Below w.heap.size w w' := by
  refine (set_one g cap lv l w hT hF hL hll).mono ?_
  rw [hno]
  rintro e w' ⟨⟨h, _⟩ | ⟨_, h⟩, hb⟩
  · cases h
  · exact ⟨h, hb⟩
theorem low_no : checkB 2 (setN 2 X0 1 [0, 13840687554816376832, 4618441417868443648]) 0 0 = false := by decide +kernel
theorem sign_no : checkB 2 (setN 2 X0 1 [0, 9223372036854775808, 4618441417868443648]) 0 0 = false := by decide +kernel

theorem line_live (g cap : Nat) (w : World) (hT : Tab w) (hF : Fls w (.slice (some ⟨g, 0, none⟩) 6 cap) X1) :
    Calls Tryd.prog 25 #[fv 2 (.slice (some ⟨g, 0, none⟩) 6 cap) 0 0, .int .i64 1] w fun e w' => (∃ g', e = .returned (.slice (some ⟨g', 0, none⟩) 3 3) ∧ RowF w' g' [0, 4617315517961601024, 13841813454723219456]) ∧ Below w.heap.size w w' := by
  have e1 : lineN 2 X1 1 = [0, 4617315517961601024, 13841813454723219456] := by decide +kernel
  refine (line_yes 2 1 0 0 _ X1 w hT hF ck1 (by decide)).mono ?_
  rw [e1]
  rintro e w' ⟨⟨g', h1, _, h2⟩, hb⟩
  exact ⟨⟨g', h1, h2⟩, hb⟩
theorem get_live (g cap : Nat) (w : World) (hT : Tab w) (hF : Fls w (.slice (some ⟨g, 0, none⟩) 6 cap) X1) :
    Calls Tryd.prog 22 #[fv 2 (.slice (some ⟨g, 0, none⟩) 6 cap) 0 0, .int .i64 1, .int .i64 2] w fun e w' => e = .returned (fl 13841813454723219456) ∧ Below w.heap.size w w' := by
  have e1 : getN 2 X1 0 0 1 2 = 13841813454723219456 := by decide +kernel
  have h := get_c 2 0 0 1 2 _ X1 w hT hF
  rw [e1] at h
  exact h
theorem get_dead (g cap : Nat) (w : World) (hT : Tab w) (hF : Fls w (.slice (some ⟨g, 0, none⟩) 6 cap) X1) :
    Calls Tryd.prog 22 #[fv 2 (.slice (some ⟨g, 0, none⟩) 6 cap) 0 0, .int .i64 2, .int .i64 1] w fun e w' => e = .returned (fl 0) ∧ Below w.heap.size w w' := by
  have e1 : getN 2 X1 0 0 2 1 = 0 := by decide +kernel
  have h := get_c 2 0 0 2 1 _ X1 w hT hF
  rw [e1] at h
  exact h
theorem check_live (g cap : Nat) (w : World) (hT : Tab w) (hF : Fls w (.slice (some ⟨g, 0, none⟩) 6 cap) X0) :
    Calls Tryd.prog 17 #[fv 2 (.slice (some ⟨g, 0, none⟩) 6 cap) 0 0] w fun e w' => e = .returned (.bool true) ∧ Below w.heap.size w w' := by
  have h := check_c 2 0 0 _ X0 w hT hF
  rw [ck0] at h
  exact h
theorem check_dead (w : World) (hT : Tab w) :
    Calls Tryd.prog 17 #[fv 0 (.slice none 0 0) 0 0] w fun e w' => e = .returned (.bool false) ∧ Below w.heap.size w w' := by
  have h := check_c 0 0 0 _ [] w hT (Fls.nil w)
  rw [ck4] at h
  exact h
theorem size_two (w : World) : Calls Tryd.prog 14 #[.int .i64 2] w fun e w' => e = .returned (.int .i64 6) ∧ w' = w := size_c 2 w
theorem size_zero (w : World) : Calls Tryd.prog 14 #[.int .i64 0] w fun e w' => e = .returned (.int .i64 0) ∧ w' = w := size_c 0 w

/-- A list of three floats that is built. -/
theorem built3 (w : World) (x y z : Nat) (hx : x < 18446744073709551616) (hy : y < 18446744073709551616) (hz : z < 18446744073709551616) :
    Fls (w.alloc (.cells #[fl x, fl y, fl z] 40)) (.slice (some ⟨w.heap.size, 0, none⟩) 3 3) [x, y, z] := by
  have h : RowF (w.alloc (.cells #[fl x, fl y, fl z] 40)) w.heap.size [x, y, z] := Go.Deep.blk_alloc_new _ _
  exact h.fls (by intro u hu; simp at hu; omega) (by simp)
theorem ordM6 : (FloatKind.f64.format.order 13841813454723219456 13841813454723219456 == some Ordering.eq) = true := by decide +kernel
theorem ord5 : (FloatKind.f64.format.order 4617315517961601024 4617315517961601024 == some Ordering.eq) = true := by decide +kernel
theorem ord0 : (FloatKind.f64.format.order 0 0 == some Ordering.eq) = true := by decide +kernel
end Go.Proofs.YtaglfndhgdolfaaDoor
