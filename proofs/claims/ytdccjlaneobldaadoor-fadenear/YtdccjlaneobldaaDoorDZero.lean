/- levellingref08.Zero; entries of a triangle, by their place. -/
import Derived.Test.YtdccjlaneobldaaDoorDList
import Derived.Test.YtdccjlaneobldaaDoorRefCheck
namespace Go.Proofs.YtdccjlaneobldaaDoor.N
open Go.RowKit Go.Shelf

/-- How many entries. -/
def szN (n : Nat) : Nat := (n + 1) * (n + 2) / 2
/-- The row and the column of a place. -/
def decI (n q : Nat) : Nat := ((List.range n).filter fun i => decide (place n (i + 1) ≤ q)).length
def decJ (n q : Nat) : Nat := q - place n (decI n q) + decI n q
theorem decI_at : ∀ n, n ≤ 6 → ∀ i, i ≤ n → ∀ j, j ≤ n → i ≤ j → decI n (place n i + (j - i)) = i := by decide
/-- What stands at place q, where f i j stands at row i and column j. -/
def pairZ (n : Nat) (f : Nat → Nat → Int) (q : Nat) : Int := f (decI n q) (decJ n q)
theorem pairZ_at {n i j : Nat} (f : Nat → Nat → Int) (h6 : n ≤ 6) (hij : i ≤ j) (hj : j ≤ n) : pairZ n f (place n i + (j - i)) = f i j := by
  unfold pairZ decJ
  rw [decI_at n h6 i (by omega) j hj hij]
  congr 1
  omega
theorem dec_ok : ∀ n, n ≤ 6 → ∀ q, q < szN n → decI n q ≤ decJ n q ∧ decJ n q ≤ n := by decide
theorem szN_small {n : Nat} (h1 : 1 ≤ n) (h6 : n ≤ 6) : 3 ≤ szN n ∧ szN n ≤ 28 := by
  have : n = 1 ∨ n = 2 ∨ n = 3 ∨ n = 4 ∨ n = 5 ∨ n = 6 := by omega
  rcases this with rfl | rfl | rfl | rfl | rfl | rfl <;> decide

theorem run_make_dy (kl kc : IntKind) (s : Nat) (hs : s ≤ 1000) (w : World) :
    (Instr.makeSlice 40 (.int kl (s : Int)) (.int kc (s : Int))).run Tryd.prog w = .ok (.slice (some ⟨w.heap.size, 0, none⟩) s s) (w.alloc (.cells (madeCells (dyv false (.slice none 0 0) 0).cells (s * 3)) 60)) := by
  obtain ⟨i0, hi, hz0, hz1, hz2⟩ := info_parts infoD
  have h := run_make (P := Tryd.prog) w 40 60 i0 (dyv false (.slice none 0 0) 0) Tryd.underlying40 hi hz0 kl kc s s (by omega) (Int.le_refl _) (by rw [hz2]; omega) (by omega)
  rw [hz1] at h
  simpa using h
theorem zero_dls (w : World) (s : Nat) (hs : s ≤ 1000) (u : Int) : Dls (w.alloc (.cells (madeCells (dyv false (.slice none 0 0) 0).cells (s * 3)) 60)) (.slice (some ⟨w.heap.size, 0, none⟩) s s) s (fun _ => 0) u := by
  have hb := heap_alloc_new w (.cells (madeCells (dyv false (.slice none 0 0) 0).cells (s * 3)) 60)
  have key : ∀ p y, (madeCells (dyv false (.slice none 0 0) 0).cells (s * 3))[p]? = some y → (w.alloc (.cells (madeCells (dyv false (.slice none 0 0) 0).cells (s * 3)) 60)).cell? ⟨w.heap.size, p, none⟩ = some y := by
    intro p y h
    simp only [World.cell?, hb]
    simp [h]
  have hc : (dyv false (.slice none 0 0) 0).cells = #[.bool false, .slice none 0 0, .int .i64 0] := rfl
  refine ⟨hs, w.heap.size, s, rfl, Nat.le_refl _, by simp, fun j hj => ⟨false, .slice none 0 0, 0, key _ _ ?_, key _ _ ?_, key _ _ ?_, Dy.zero _ _⟩⟩
  · rw [hc]
    have e1 : j * 3 < s * 3 := by omega
    have e2 : j * 3 % 3 = 0 := by omega
    simp [madeCells, e1, e2]
  · rw [hc]
    have e1 : j * 3 + 1 < s * 3 := by omega
    have e2 : (j * 3 + 1) % 3 = 1 := by omega
    simp [madeCells, e1, e2]
  · rw [hc]
    have e1 : j * 3 + 2 < s * 3 := by omega
    have e2 : (j * 3 + 2) % 3 = 2 := by omega
    simp [madeCells, e1, e2]

set_option maxRecDepth 100000 in
set_option maxHeartbeats 1000000 in
theorem rzero_c (n : Nat) (u : Int) (w : World) (h1 : 1 ≤ n) (h6 : n ≤ 6) :
    Calls Tryd.prog 53 #[.int .i64 (n : Int)] w fun r w' => (∃ v, r = .returned v ∧ Dls w' v (szN n) (fun _ => 0) u) ∧ Below w.heap.size w w' := by
  have hs := szN_small h1 h6
  have hS := sizeZ_nat n h1 h6
  have HD := zero_dls w (szN n) (by omega) u
  have hmk := run_make_dy .i64 .i64 (szN n) (by omega)
  have hS' : sizeZ (n : Int) = (szN n : Int) := hS
  have HB : Below w.heap.size w (w.alloc (.cells (madeCells (dyv false (.slice none 0 0) 0).cells (szN n * 3)) 60)) := (Below.refl _ w).alloc (Nat.le_refl _) _
  generalize madeCells (dyv false (.slice none 0 0) 0).cells (szN n * 3) = M at *
  generalize szN n = s at *
  have HS : Hid (sizeZ (n : Int) = (s : Int)) := hS'
  clear hS hS'
  go_enter Tryd.func53, Tryd.ntmps53
  go_wp2_with fail
  refine (rsize_c _ _).mono ?_
  rw [HS.out]
  rintro e w1 ⟨rfl, rfl⟩
  go_wp2_with fail
  go_ret
  exact ⟨⟨_, rfl, HD⟩, HB⟩
end Go.Proofs.YtdccjlaneobldaaDoor.N
