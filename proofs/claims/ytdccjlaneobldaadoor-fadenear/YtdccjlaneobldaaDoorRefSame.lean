/- levellingref07.Same at two factors of like numbers. -/
import Derived.Test.YtdccjlaneobldaaDoorFBox
import Derived.Test.YtdccjlaneobldaaDoorRefAll
namespace Go.Proofs.YtdccjlaneobldaaDoor
open Go.RowKit Go.Shelf

/-- What a walk is told of the law's own 'live'. -/
def LiveC : Prop := ∀ w, Tab w → Calls Tryd.prog 8 #[] w fun e w' => e = .returned (.bool true) ∧ Below w.heap.size w w'

set_option maxRecDepth 100000 in
set_option maxHeartbeats 1000000 in
theorem fsame_c (c r t : Int) (va vb : Value) (xs ys : List Nat) (w : World) (hX : Fls w va xs) (hY : Fls w vb ys) :
    Calls Tryd.prog 15 #[fv c va r t, fv c vb r t] w fun e w' => e = .returned (.bool (allSame xs ys)) ∧ Below w.heap.size w w' := by
  obtain ⟨a, cap, rfl, hcap⟩ := hX.shape
  obtain ⟨a', cap', rfl, hcap'⟩ := hY.shape
  have hB : Below w.heap.size w ((w.alloc (fcells c (.slice a xs.length cap) r t)).alloc (fcells c (.slice a' ys.length cap') r t)) := ((Below.refl _ w).alloc (Nat.le_refl _) _).alloc (by simp) _
  go_enter Tryd.func15, Tryd.ntmps15
  go_wp2_with fail
  refine (all_c _ _ xs ys _ (hX.below hB (Nat.le_refl _)) (hY.below hB (Nat.le_refl _))).mono ?_
  rintro e w1 ⟨rfl, hb⟩
  go_wp2
  go_ret
  exact ⟨rfl, hB.trans (hb.mono hB.size)⟩
end Go.Proofs.YtdccjlaneobldaaDoor
