/- levellingref17.Same at like numbers. -/
import Derived.Test.YtbkmpoeaindnaaaDoorOf
namespace Go.Proofs.YtbkmpoeaindnaaaDoor
open Go.RowKit Go.Shelf Rnd

set_option maxRecDepth 100000 in
set_option maxHeartbeats 2000000 in
theorem stsame_c (F : Int) (R T V I : Nat) (hR : R < 18446744073709551616) (hT : T < 18446744073709551616) (hV : V < 18446744073709551616) (hI : I < 18446744073709551616) (w : World) :
    Calls Tryd.prog 14 #[stv F R T V I, stv F R T V I] w fun e w' => e = .returned (.bool true) ∧ Below w.heap.size w w' := by
  have k1 := same_c R R hR hR
  have k2 := same_c T T hT hT
  have k3 := same_c V V hV hV
  have k4 := same_c I I hI hI
  rw [sameB_refl] at k1 k2 k3 k4
  have hB : Below w.heap.size w ((w.alloc (scells F R T V I)).alloc (scells F R T V I)) := ((Below.refl _ w).alloc (Nat.le_refl _) _).alloc (by simp) _
  go_enter Tryd.func14, Tryd.ntmps14
  go_wp2_with fail
  refine (k1 _).mono ?_
  rintro e w1 ⟨rfl, rfl⟩
  go_wp2_with fail
  refine (k2 _).mono ?_
  rintro e w1 ⟨rfl, rfl⟩
  go_wp2_with fail
  refine (k3 _).mono ?_
  rintro e w1 ⟨rfl, rfl⟩
  go_wp2_with fail
  refine (k4 _).mono ?_
  rintro e w1 ⟨rfl, rfl⟩
  go_wp2
  go_ret
  exact ⟨rfl, hB⟩
/-- All that Of tells are words. -/
theorem st_lt {c r t : Int} {xs : List Nat} (hok : okF xs) : sR c xs r t < 18446744073709551616 ∧ sT c xs r t < 18446744073709551616 ∧ sV c xs r t < 18446744073709551616 ∧ sI c xs r t < 18446744073709551616 ∧ sS c xs r t < 18446744073709551616 := by
  by_cases h : stE c xs r t = 0
  · obtain ⟨hck, hr⟩ := stE_zero h
    have S := st_ok hck hok hr
    obtain ⟨_, y2, y3, y4, y5, y6⟩ := st_yes h
    rw [y2, y3, y4, y5, y6]
    have h1 := S.restF
    have h2 := S.totF
    have h3 := S.varL
    have h4 := S.fitL
    have h5 := S.spL
    exact ⟨by omega, by omega, by omega, by omega, h5⟩
  · obtain ⟨_, y2, y3, y4, y5, y6⟩ := st_no h
    rw [y2, y3, y4, y5, y6]
    decide
end Go.Proofs.YtbkmpoeaindnaaaDoor
