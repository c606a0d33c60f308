/- levellingref07.Line, where there is none. -/
import Derived.Test.YtaglfndhgdolfaaDoorRefLine
namespace Go.Proofs.YtaglfndhgdolfaaDoor
open Go.RowKit Go.Shelf

set_option maxRecDepth 100000 in
set_option maxHeartbeats 2000000 in
theorem rline_no (c r t i : Int) (sv : Value) (xs : List Nat) (w : World) (hF : Fls w sv xs) (hno : ¬ (inTri c i i ∧ checkB c xs r t = true)) :
    Calls Tryd.prog 26 #[fv c sv r t, .int .i64 i] w fun e w' => e = .returned (.slice none 0 0) ∧ Below w.heap.size w w' := by
  obtain ⟨a, cap, rfl, hcap⟩ := hF.shape
  have hB : Below w.heap.size w (w.alloc (fcells c (.slice a xs.length cap) r t)) := (Below.refl _ w).alloc (Nat.le_refl _) _
  have X := FBox.new w c (.slice a xs.length cap) r t
  have hF1 := hF.below hB (Nat.le_refl _)
  cases hck : checkB c xs r t with
  | false =>
    have HCK : Hid (checkB c xs r t = false) := hck
    clear hck hno
    go_enter Tryd.func26, Tryd.ntmps26
    go_wp2_with fail
    refine (rcheck_c c r t _ xs _ hF1).mono ?_
    rw [HCK.out]
    rintro e w2 ⟨rfl, hb2⟩
    go_wp2_with fail
    go_ret
    exact ⟨rfl, hB.trans (hb2.mono hB.size)⟩
  | true =>
    have hck' := hck
    obtain ⟨n, rfl, hn1, hn6, hlen⟩ := check_len hck
    have hi : i < 0 ∨ (¬ i < 0 ∧ (n : Int) < i) := by
      rcases Int.lt_or_le i 0 with h | h
      · exact .inl h
      · refine .inr ⟨by omega, ?_⟩
        rcases Int.lt_or_le (n : Int) i with h2 | h2
        · exact h2
        · exact (hno ⟨⟨⟨by omega, by omega⟩, h, Int.le_refl _, h2⟩, hck'⟩).elim
    have HCK : Hid (checkB n xs r t = true) := hck'
    clear hck hck' hno hlen
    rcases hi with h1 | ⟨h1, h2⟩
    all_goals
      go_enter Tryd.func26, Tryd.ntmps26
      go_wp2_with fail
      refine (rcheck_c n r t _ xs _ hF1).mono ?_
      rw [HCK.out]
      rintro e w2 ⟨rfl, hb2⟩
      have X2 := X.below hb2 (Nat.le_refl _)
      have x0 := X2.c0
      go_wp2_with fail
      go_ret
      exact ⟨rfl, hB.trans (hb2.mono hB.size)⟩
end Go.Proofs.YtaglfndhgdolfaaDoor
