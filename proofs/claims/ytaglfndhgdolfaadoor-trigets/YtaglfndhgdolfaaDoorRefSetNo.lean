/- levellingref07.Set, where nothing is set. -/
import Derived.Test.YtaglfndhgdolfaaDoorRefSet
namespace Go.Proofs.YtaglfndhgdolfaaDoor
open Go.RowKit Go.Shelf

set_option maxRecDepth 100000 in
set_option maxHeartbeats 2000000 in
theorem rset_no (c r t i : Int) (sv lv : Value) (xs l : List Nat) (w : World) (hF : Fls w sv xs) (hL : Fls w lv l) (hno : ¬ (inTri c i i ∧ checkB c xs r t = true ∧ (l.length : Int) = c + 1)) :
    Calls Tryd.prog 20 #[fv c sv r t, .int .i64 i, lv] w fun e w' => e = .returned (.tuple #[fv 0 (.slice none 0 0) 0 0, .bool false]) ∧ Below w.heap.size w w' := by
  obtain ⟨a, cap, rfl, hcap⟩ := hF.shape
  obtain ⟨la, lcap, rfl, hlcap⟩ := hL.shape
  have hll := hL.2.1
  have hB : Below w.heap.size w ((w.alloc (fcells c (.slice a xs.length cap) r t)).alloc (fcells 0 (.slice none 0 0) 0 0)) := ((Below.refl _ w).alloc (Nat.le_refl _) _).alloc (by simp) _
  have bF0 : FBox ((w.alloc (fcells c (.slice a xs.length cap) r t)).alloc (fcells 0 (.slice none 0 0) 0 0)) w.heap.size c (.slice a xs.length cap) r t := (FBox.new w _ _ _ _).below ((Below.refl _ _).alloc (Nat.le_refl _) _) (Nat.le_refl _)
  have bR0 : FBox ((w.alloc (fcells c (.slice a xs.length cap) r t)).alloc (fcells 0 (.slice none 0 0) 0 0)) (w.heap.size + 1) 0 (.slice none 0 0) 0 0 := by
    have h := FBox.new (w.alloc (fcells c (.slice a xs.length cap) r t)) 0 (.slice none 0 0) 0 0
    rw [World.size_alloc] at h; exact h
  have hF1 := hF.below hB (Nat.le_refl _)
  have fin : ∀ W6 : World, FBox W6 (w.heap.size + 1) 0 (.slice none 0 0) 0 0 → Below w.heap.size w W6 → FBox ((((W6.setCell ⟨w.heap.size + 1, 0, none⟩ (.int .i64 0)).setCell ⟨w.heap.size + 1, 1, none⟩ (.slice none 0 0)).setCell ⟨w.heap.size + 1, 2, none⟩ (.int .i64 0)).setCell ⟨w.heap.size + 1, 3, none⟩ (.int .i64 0)) (w.heap.size + 1) 0 (.slice none 0 0) 0 0 ∧ Below w.heap.size w ((((W6.setCell ⟨w.heap.size + 1, 0, none⟩ (.int .i64 0)).setCell ⟨w.heap.size + 1, 1, none⟩ (.slice none 0 0)).setCell ⟨w.heap.size + 1, 2, none⟩ (.int .i64 0)).setCell ⟨w.heap.size + 1, 3, none⟩ (.int .i64 0)) :=
    fun W6 h1 h2 => ⟨h1.put 0 (.slice none 0 0) 0 0, putF_below h2 (by omega) 0 (.slice none 0 0) 0 0⟩
  have hcase : Hid (checkB c xs r t = false) ∨ (Hid (checkB c xs r t = true) ∧ (i < 0 ∨ (¬ i < 0 ∧ c < i) ∨ (¬ i < 0 ∧ ¬ c < i ∧ (1 ≤ c ∧ c ≤ 6) ∧ ((l.length : Int) != c + 1) = true))) := by
    cases hck : checkB c xs r t with
    | false => exact .inl rfl
    | true =>
      refine .inr ⟨rfl, ?_⟩
      obtain ⟨n, rfl, hn1, hn6, _⟩ := check_len hck
      by_cases h1 : i < 0
      · exact .inl h1
      · by_cases h2 : (n : Int) < i
        · exact .inr (.inl ⟨h1, h2⟩)
        · refine .inr (.inr ⟨h1, h2, ⟨by omega, by omega⟩, ?_⟩)
          have h3 : ¬ (l.length : Int) = (n : Int) + 1 := fun h => hno ⟨⟨⟨by omega, by omega⟩, by omega, Int.le_refl _, by omega⟩, hck, h⟩
          simp [h3]
  clear hno
  rcases hcase with HCK | ⟨HCK, h1 | ⟨h1, h2⟩ | ⟨h1, h2, ⟨h4, h5⟩, h3⟩⟩
  all_goals
    go_enter Tryd.func20, Tryd.ntmps20
    go_wp2_with fail
    refine (rcheck_c c r t _ xs _ hF1).mono ?_
    rw [HCK.out]
    rintro e w2 ⟨rfl, hb2⟩
    have bF2 := bF0.below hb2 (Nat.le_refl _)
    have bR2 := bR0.below hb2 (Nat.le_refl _)
    have hB2 := hB.trans (hb2.mono hB.size)
    have e0 := bF2.c0
    have r0 := bR2.c0
    have r1 := bR2.c1
    have r2 := bR2.c2
    have r3 := bR2.c3
    have z0 := bR2.fz 0
    have z1 := bR2.fz 1
    have z2 := bR2.fz 2
    have z3 := bR2.fz 3
    obtain ⟨b7, hB7⟩ := fin w2 bR2 hB2
    clear hb2 bF0 bR0 hB fin
    go_wp2_with fail
    exact bodyPost_ret_by (v := .tuple #[fv 0 (.slice none 0 0) 0 0, .bool false]) (rset_results b7 rfl rfl) rfl ⟨rfl, hB7⟩
end Go.Proofs.YtaglfndhgdolfaaDoor
