/- levellingref17.Of where it tells nothing; levellingref17.Spread. -/
import Derived.Test.YtbkmpoeaindnaaaDoorROf
namespace Go.Proofs.YtbkmpoeaindnaaaDoor
open Go.RowKit Go.Shelf Rnd

set_option maxRecDepth 100000 in
set_option maxHeartbeats 2000000 in
theorem rof_no (c r t : Int) (sv : Value) (xs : List Nat) (w : World) (hF : Fls w sv xs) (hno : checkB c xs r t = false ∨ r ≤ c) : OfC 11 w c sv xs r t := by
  have hE : stE c xs r t ≠ 0 := fun h => by
    obtain ⟨h1, h2⟩ := stE_zero h
    rcases hno with h | h
    · rw [h1] at h; cases h
    · omega
  obtain ⟨y1, y2, y3, y4, y5, _⟩ := st_no hE
  unfold OfC
  rw [y1, y2, y3, y4, y5]
  clear y1 y2 y3 y4 y5 hE
  obtain ⟨a, cap, rfl, hcap⟩ := hF.shape
  have hB : Below w.heap.size w ((w.alloc (fcells c (.slice a xs.length cap) r t)).alloc (scells 0 0 0 0 0)) := ((Below.refl _ w).alloc (Nat.le_refl _) _).alloc (by simp) _
  have X : FBox ((w.alloc (fcells c (.slice a xs.length cap) r t)).alloc (scells 0 0 0 0 0)) w.heap.size c (.slice a xs.length cap) r t := (FBox.new w c (.slice a xs.length cap) r t).below ((Below.refl _ _).alloc (Nat.le_refl _) _) (Nat.le_refl _)
  have Y : SBox ((w.alloc (fcells c (.slice a xs.length cap) r t)).alloc (scells 0 0 0 0 0)) (w.heap.size + 1) 0 0 0 0 0 := by
    have h := SBox.new (w.alloc (fcells c (.slice a xs.length cap) r t)) 0 0 0 0 0
    rw [World.size_alloc] at h
    exact h
  obtain ⟨E, HE⟩ : ∃ E, Hid (stE c xs r t = E) := ⟨_, rfl⟩
  rw [HE.out]
  cases hck : checkB c xs r t with
  | false =>
    have HCK : Hid (checkB c xs r t = false) := hck
    have hE1 : E = 1 := by rw [← HE.out]; exact stE_arg hck
    subst hE1
    clear hck hno
    go_enter Tryd.func11, Tryd.ntmps11
    go_wp2_with fail
    refine (rcheck_c c r t _ xs _ (hF.below hB (Nat.le_refl _))).mono ?_
    rw [HCK.out]
    rintro e w1 ⟨rfl, hb1⟩
    have Y3 := Y.below hb1 Y.lt
    have B3 := hB.trans (hb1.mono hB.size)
    clear hb1 X Y hB
    have y0 := Y3.c0
    have y1 := Y3.c1
    have y2 := Y3.c2
    have y3 := Y3.c3
    have y4 := Y3.c4
    have z0 := Y3.fz 0
    have z1 := Y3.fz 1
    have z2 := Y3.fz 2
    have z3 := Y3.fz 3
    have z4 := Y3.fz 4
    have Z := Y3.put 0 0 0 0 0
    have B4 := putS_below B3 (B := w.heap.size + 1) (by omega) 0 0 0 0 0
    unfold putS at Z B4
    go_wp2_with fail
    exact bodyPost_ret_by (v := .tuple #[stv 0 0 0 0 0, .int .i64 1]) (rof_results Z rfl rfl) rfl ⟨rfl, B4⟩
  | true =>
    have HCK : Hid (checkB c xs r t = true) := hck
    have hrc : r ≤ c := by
      rcases hno with h | h
      · rw [hck] at h; cases h
      · exact h
    have hE1 : E = 5 := by rw [← HE.out]; exact stE_few hck hrc
    subst hE1
    clear hck hno
    go_enter Tryd.func11, Tryd.ntmps11
    go_wp2_with fail
    refine (rcheck_c c r t _ xs _ (hF.below hB (Nat.le_refl _))).mono ?_
    rw [HCK.out]
    rintro e w1 ⟨rfl, hb1⟩
    have X1 := X.below hb1 (Nat.le_refl _)
    have c0 := X1.c0
    have c2 := X1.c2
    have Y3 := Y.below hb1 Y.lt
    have B3 := hB.trans (hb1.mono hB.size)
    clear hb1 X Y hB X1
    have y0 := Y3.c0
    have y1 := Y3.c1
    have y2 := Y3.c2
    have y3 := Y3.c3
    have y4 := Y3.c4
    have z0 := Y3.fz 0
    have z1 := Y3.fz 1
    have z2 := Y3.fz 2
    have z3 := Y3.fz 3
    have z4 := Y3.fz 4
    have Z := Y3.put 0 0 0 0 0
    have B4 := putS_below B3 (B := w.heap.size + 1) (by omega) 0 0 0 0 0
    unfold putS at Z B4
    go_wp2_with fail
    exact bodyPost_ret_by (v := .tuple #[stv 0 0 0 0 0, .int .i64 5]) (rof_results Z rfl rfl) rfl ⟨rfl, B4⟩

theorem rof_all (c r t : Int) (sv : Value) (xs : List Nat) (w : World) (hF : Fls w sv xs) : OfC 11 w c sv xs r t := by
  by_cases h : checkB c xs r t = true ∧ c < r
  · exact rof_yes c r t sv xs w hF h.1 h.2
  · refine rof_no c r t sv xs w hF ?_
    cases hck : checkB c xs r t with
    | false => exact .inl rfl
    | true => exact .inr (by have : ¬ c < r := fun h' => h ⟨hck, h'⟩; omega)

set_option maxRecDepth 100000 in
set_option maxHeartbeats 2000000 in
theorem rspread_all (c r t : Int) (sv : Value) (xs : List Nat) (w : World) (hF : Fls w sv xs) : SpC 13 w c sv xs r t := by
  obtain ⟨a, cap, rfl, hcap⟩ := hF.shape
  have hB : Below w.heap.size w (w.alloc (fcells c (.slice a xs.length cap) r t)) := (Below.refl _ w).alloc (Nat.le_refl _) _
  have k := rof_all c r t _ xs _ (hF.below hB (Nat.le_refl _))
  unfold OfC at k
  unfold SpC
  by_cases hE : stE c xs r t = 0
  · obtain ⟨hck, hr⟩ := stE_zero hE
    have S := st_ok hck hF.1 hr
    obtain ⟨y1, y2, y3, y4, y5, y6⟩ := st_yes hE
    have hsq := S.sp
    rw [← y4, ← y6] at hsq
    rw [hE] at k ⊢
    clear S y1 y2 y3 y4 y5 y6 hE hck hr
    generalize sF c xs r t = F at *
    generalize sR c xs r t = R at *
    generalize sT c xs r t = T at *
    generalize sV c xs r t = V at *
    generalize sI c xs r t = I at *
    generalize sS c xs r t = P at *
    go_enter Tryd.func13, Tryd.ntmps13
    go_wp2_with fail
    refine k.mono ?_
    rintro e w1 ⟨rfl, hb1⟩
    have B1 := hB.trans (hb1.mono hB.size)
    clear hb1 hB k
    go_wp2_with fail
    refine (sqrt_c V P hsq _).mono ?_
    rintro e w2 ⟨rfl, rfl⟩
    go_wp2_with fail
    go_ret2
    exact ⟨rfl, B1.alloc B1.size _⟩
  · obtain ⟨y1, y2, y3, y4, y5, y6⟩ := st_no hE
    rw [y1, y2, y3, y4, y5] at k
    rw [y6]
    clear y1 y2 y3 y4 y5 y6
    obtain ⟨E, HE⟩ : ∃ E, Hid (stE c xs r t = E) := ⟨_, rfl⟩
    rw [HE.out] at k hE ⊢
    have hE' : (E != 0) = true := by simpa using hE
    clear hE
    go_enter Tryd.func13, Tryd.ntmps13
    go_wp2_with fail
    refine k.mono ?_
    rintro e w1 ⟨rfl, hb1⟩
    have B1 := hB.trans (hb1.mono hB.size)
    clear hb1 hB k
    go_wp2_with fail
    go_ret2
    exact ⟨rfl, B1.alloc B1.size _⟩
end Go.Proofs.YtbkmpoeaindnaaaDoor
