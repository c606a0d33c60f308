/- tri.Set and tri.Line, where there is nothing. -/
import Derived.Test.YtaglfndhgdolfaaDoorSet
namespace Go.Proofs.YtaglfndhgdolfaaDoor
open Go.RowKit Go.Shelf

theorem set_results {W : World} {B : Nat} {c r t : Int} {sv : Value} (h : FBox W B c sv r t) {tmps : Array Value} {b : Bool} (h6 : tmps.getD 6 undef = .pointer (some ⟨B, 0, none⟩)) (h7 : tmps.getD 7 undef = .bool b) :
    (results Tryd.f19 tmps).run Tryd.prog W = .ok (.tuple #[fv c sv r t, .bool b]) W := by
  have k0 := h.c0
  have k1 := h.c1
  have k2 := h.c2
  have k3 := h.c3
  rw [results_cell_tmp rfl, h6, h7]
  simp [go_sem, k0, k1, k2, k3]

set_option maxRecDepth 100000 in
set_option maxHeartbeats 2000000 in
theorem set_no (c r t i : Int) (sv lv : Value) (xs l : List Nat) (w : World) (hT : Tab w) (hF : Fls w sv xs) (hL : Fls w lv l) (hno : ¬ (inTri c i i ∧ checkB c xs r t = true ∧ (l.length : Int) = c + 1)) :
    Calls Tryd.prog 19 #[fv c sv r t, .int .i64 i, lv] w fun e w' => e = .returned (.tuple #[fv 0 (.slice none 0 0) 0 0, .bool false]) ∧ Below w.heap.size w w' := by
  obtain ⟨a, cap, rfl, hcap⟩ := hF.shape
  obtain ⟨la, lcap, rfl, hlcap⟩ := hL.shape
  have hl := hF.2.1
  have hll := hL.2.1
  have hB : Below w.heap.size w ((w.alloc (fcells c (.slice a xs.length cap) r t)).alloc (fcells 0 (.slice none 0 0) 0 0)) := ((Below.refl _ w).alloc (Nat.le_refl _) _).alloc (by simp) _
  have bF0 : FBox ((w.alloc (fcells c (.slice a xs.length cap) r t)).alloc (fcells 0 (.slice none 0 0) 0 0)) w.heap.size c (.slice a xs.length cap) r t := (FBox.new w _ _ _ _).below ((Below.refl _ _).alloc (Nat.le_refl _) _) (Nat.le_refl _)
  have bR0 : FBox ((w.alloc (fcells c (.slice a xs.length cap) r t)).alloc (fcells 0 (.slice none 0 0) 0 0)) (w.heap.size + 1) 0 (.slice none 0 0) 0 0 := by
    have h := FBox.new (w.alloc (fcells c (.slice a xs.length cap) r t)) 0 (.slice none 0 0) 0 0
    rw [World.size_alloc] at h; exact h
  have hF1 := hF.below hB (Nat.le_refl _)
  have hT1 := hT.below hB
  have fin : ∀ W6 : World, FBox W6 (w.heap.size + 1) 0 (.slice none 0 0) 0 0 → Below w.heap.size w W6 → FBox ((((W6.setCell ⟨w.heap.size + 1, 0, none⟩ (.int .i64 0)).setCell ⟨w.heap.size + 1, 1, none⟩ (.slice none 0 0)).setCell ⟨w.heap.size + 1, 2, none⟩ (.int .i64 0)).setCell ⟨w.heap.size + 1, 3, none⟩ (.int .i64 0)) (w.heap.size + 1) 0 (.slice none 0 0) 0 0 ∧ Below w.heap.size w ((((W6.setCell ⟨w.heap.size + 1, 0, none⟩ (.int .i64 0)).setCell ⟨w.heap.size + 1, 1, none⟩ (.slice none 0 0)).setCell ⟨w.heap.size + 1, 2, none⟩ (.int .i64 0)).setCell ⟨w.heap.size + 1, 3, none⟩ (.int .i64 0)) :=
    fun W6 h1 h2 => ⟨h1.put 0 (.slice none 0 0) 0 0, putF_below h2 (by omega) 0 (.slice none 0 0) 0 0⟩
  by_cases hin : inTri c i i
  · obtain ⟨n, ni, nj, rfl, rfl, hj, hn1, hn6, hij, hjn⟩ := inTri_nat hin
    obtain rfl : ni = nj := by omega
    obtain ⟨p, HP⟩ : ∃ p, Hid (place n ni = p) := ⟨_, rfl⟩
    go_enter Tryd.func19, Tryd.ntmps19
    go_wp2_with fail
    refine (at_yes n ni ni _ hn1 hn6 (Nat.le_refl _) hjn).mono ?_
    rw [Nat.sub_self, Nat.add_zero, HP.out]
    rintro e w1 ⟨rfl, hb1⟩
    have bF1 := bF0.below hb1 (Nat.le_refl _)
    have bR1 := bR0.below hb1 (Nat.le_refl _)
    have hF2 := hF1.below hb1 (Nat.le_refl _)
    have hT2 := hT1.below hb1
    have hB1 := hB.trans (hb1.mono hB.size)
    have d0 := bF1.c0
    have d1 := bF1.c1
    have d2 := bF1.c2
    have d3 := bF1.c3
    clear hF1 hT1 hb1 bF0 bR0 hB
    go_wp2_with fail
    refine (check_c n r t _ xs _ hT2 hF2).mono ?_
    rintro e w2 ⟨rfl, hb2⟩
    have bF2 := bF1.below hb2 (Nat.le_refl _)
    have bR2 := bR1.below hb2 (Nat.le_refl _)
    have hB2 := hB1.trans (hb2.mono hB1.size)
    have e0 := bF2.c0
    have r0 := bR2.c0
    have r1 := bR2.c1
    have r2 := bR2.c2
    have r3 := bR2.c3
    have z0 := bR2.fz 0
    have z1 := bR2.fz 1
    have z2 := bR2.fz 2
    have z3 := bR2.fz 3
    obtain ⟨b7, hB7⟩ := fin w2 bR2 hB2
    clear hF2 hT2 hb2 bF1 bR1 hB1 d0 d1 d2 d3 fin
    cases hck : checkB n xs r t with
    | false =>
      go_wp2_with fail
      exact bodyPost_ret_by (v := .tuple #[fv 0 (.slice none 0 0) 0 0, .bool false]) (set_results b7 rfl rfl) rfl ⟨rfl, hB7⟩
    | true =>
      have hle : ((l.length : Int) != (n : Int) + 1) = true := by
        have : ¬ (l.length : Int) = (n : Int) + 1 := fun h => hno ⟨hin, hck, h⟩
        simp [this]
      go_wp2_with fail
      exact bodyPost_ret_by (v := .tuple #[fv 0 (.slice none 0 0) 0 0, .bool false]) (set_results b7 rfl rfl) rfl ⟨rfl, hB7⟩
  · go_enter Tryd.func19, Tryd.ntmps19
    go_wp2_with fail
    refine (at_no c i i _ hin).mono ?_
    rintro e w2 ⟨rfl, hb1⟩
    have bR2 := bR0.below hb1 (Nat.le_refl _)
    have hB2 := hB.trans (hb1.mono hB.size)
    have r0 := bR2.c0
    have r1 := bR2.c1
    have r2 := bR2.c2
    have r3 := bR2.c3
    have z0 := bR2.fz 0
    have z1 := bR2.fz 1
    have z2 := bR2.fz 2
    have z3 := bR2.fz 3
    obtain ⟨b7, hB7⟩ := fin w2 bR2 hB2
    go_wp2_with fail
    exact bodyPost_ret_by (v := .tuple #[fv 0 (.slice none 0 0) 0 0, .bool false]) (set_results b7 rfl rfl) rfl ⟨rfl, hB7⟩

set_option maxRecDepth 100000 in
set_option maxHeartbeats 2000000 in
theorem line_no (c r t i : Int) (sv : Value) (xs : List Nat) (w : World) (hT : Tab w) (hF : Fls w sv xs) (hno : ¬ (inTri c i i ∧ checkB c xs r t = true)) :
    Calls Tryd.prog 25 #[fv c sv r t, .int .i64 i] w fun e w' => e = .returned (.slice none 0 0) ∧ Below w.heap.size w w' := by
  obtain ⟨a, cap, rfl, hcap⟩ := hF.shape
  have hl := hF.2.1
  have hB : Below w.heap.size w (w.alloc (fcells c (.slice a xs.length cap) r t)) := (Below.refl _ w).alloc (Nat.le_refl _) _
  have bF0 := FBox.new w c (.slice a xs.length cap) r t
  have hF1 := hF.below hB (Nat.le_refl _)
  have hT1 := hT.below hB
  by_cases hin : inTri c i i
  · obtain ⟨n, ni, nj, rfl, rfl, hj, hn1, hn6, hij, hjn⟩ := inTri_nat hin
    obtain rfl : ni = nj := by omega
    have hck : checkB n xs r t = false := by
      cases h : checkB n xs r t with
      | false => rfl
      | true => exact absurd ⟨hin, h⟩ hno
    obtain ⟨p, HP⟩ : ∃ p, Hid (place n ni = p) := ⟨_, rfl⟩
    go_enter Tryd.func25, Tryd.ntmps25
    go_wp2_with fail
    refine (at_yes n ni ni _ hn1 hn6 (Nat.le_refl _) hjn).mono ?_
    rw [Nat.sub_self, Nat.add_zero, HP.out]
    rintro e w1 ⟨rfl, hb1⟩
    have bF1 := bF0.below hb1 (Nat.le_refl _)
    have hF2 := hF1.below hb1 (Nat.le_refl _)
    have hT2 := hT1.below hb1
    have hB1 := hB.trans (hb1.mono hB.size)
    have d0 := bF1.c0
    have d1 := bF1.c1
    have d2 := bF1.c2
    have d3 := bF1.c3
    clear hF1 hT1 hb1 bF0 hB
    go_wp2_with fail
    refine (check_c n r t _ xs _ hT2 hF2).mono ?_
    rw [hck]
    rintro e w2 ⟨rfl, hb2⟩
    go_wp2_with fail
    go_ret
    exact ⟨rfl, hB1.trans (hb2.mono hB1.size)⟩
  · go_enter Tryd.func25, Tryd.ntmps25
    go_wp2_with fail
    refine (at_no c i i _ hin).mono ?_
    rintro e w2 ⟨rfl, hb1⟩
    go_wp2_with fail
    go_ret
    exact ⟨rfl, hB.trans (hb1.mono hB.size)⟩
end Go.Proofs.YtaglfndhgdolfaaDoor
