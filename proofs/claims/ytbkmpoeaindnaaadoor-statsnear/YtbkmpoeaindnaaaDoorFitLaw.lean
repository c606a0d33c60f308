/- levellinglaw17.StatsFit: the walk. -/
import Derived.Test.YtbkmpoeaindnaaaDoorStTwo
import Derived.Test.YtbkmpoeaindnaaaDoorRefCheck
import Derived.Test.YtbkmpoeaindnaaaDoorLiveV
import Derived.Test.YtbkmpoeaindnaaaDoorArgs
namespace Go.Proofs.YtbkmpoeaindnaaaDoor
open Go.RowKit Go.Shelf Rnd

theorem wle {a b : Nat} (hb : b < 9218868437227405312) (h : a ≤ b) : (FloatKind.f64.format.order a b == some .lt || FloatKind.f64.format.order a b == some .eq) = true := by
  have hi := inf_eq
  show (Ieee.double.order a b == some .lt || Ieee.double.order a b == some .eq) = true
  rw [order_pos (by omega) (by omega), ord_le]
  exact decide_eq_true h
theorem wge {a b : Nat} (ha : a < 9218868437227405312) (hb : b < 9218868437227405312) (h : b ≤ a) : (FloatKind.f64.format.order a b == some .gt || FloatKind.f64.format.order a b == some .eq) = true := by
  have hi := inf_eq
  show (Ieee.double.order a b == some .gt || Ieee.double.order a b == some .eq) = true
  rw [order_pos (by omega) (by omega), ord_ge]
  exact decide_eq_true h

set_option maxRecDepth 100000 in
set_option maxHeartbeats 8000000 in
theorem fit_go (hlive : LiveC) (c m t : Int) (sv : Value) (w : World) (hT : Tab w) (h0 : Arg w sv) :
    Calls Tryd.prog 5 #[fv c sv m t] w fun e w' => e = .returned (.bool true) ∧ Below w.heap.size w w' := by
  obtain ⟨a, len, cap, rfl, hmax, hx⟩ := h0
  have B : Below w.heap.size w (w.alloc (fcells c (.slice a len cap) m t)) := (Below.refl _ w).alloc (Nat.le_refl _) _
  by_cases g0 : 60 < len
  · have g0' : (60 : Int) < (len : Int) := by omega
    go_enter Tryd.func5, Tryd.ntmps5
    go_wp2_with fail
    refine (hlive _ (hT.below B)).mono ?_
    rintro e w' ⟨rfl, hb⟩
    go_wp2
    go_ret
    exact ⟨rfl, B.trans (hb.mono B.size)⟩
  have g0' : ¬ (60 : Int) < (len : Int) := by omega
  obtain ⟨xs, hF, rfl⟩ := hx (by omega)
  clear hx
  have X := FBox.new w c (.slice a xs.length cap) m t
  have kO := of_all c m t _ xs _ (hT.below B) (hF.below B (Nat.le_refl _))
  unfold OfC at kO
  by_cases hE : stE c xs m t = 0
  · obtain ⟨hck, hr⟩ := stE_zero hE
    have S := st_ok hck hF.1 hr
    obtain ⟨y1, y2, y3, y4, y5, y6⟩ := st_yes hE
    rw [hE, y1, y2, y3, y4, y5] at kO
    clear y1 y2 y3 y4 y5 y6 hE
    have f1 := S.restF
    have f2 := S.totF
    have f3 := S.le
    have f4 := S.varL
    have f5 := S.varE
    have f6 := S.fitL
    clear S
    generalize restN c xs m t = R at *
    generalize totN c xs m t = T at *
    generalize varN c xs m t = V at *
    generalize fitN c xs m t = I at *
    have o1 := wge (a := R) (b := 0) f1 (by decide) (Nat.zero_le _)
    have o2 := wle f2 f3
    have o3 := wge (a := I) (b := 0) (by omega) (by decide) (Nat.zero_le _)
    have o4 := wle (a := I) (b := 4607182418800017408) (by decide) f6
    have o5 := wge (a := V) (b := 0) (by omega) (by decide) (Nat.zero_le _)
    have o6 := wle (a := V) (b := R) f1 f4
    have kI := isinf_c T (by omega)
    rw [decide_eq_false (by rw [kind2]; omega)] at kI
    have hse := eq_self V
    rw [decide_eq_true (by omega)] at hse
    have ht := check_turns hck
    obtain ⟨n, hn, hn1, hn6, hxl⟩ := check_len hck
    clear hxl
    obtain ⟨t1, t2, _, _⟩ := ht
    have hc1 : 1 ≤ c := by omega
    have hc6 : c ≤ 6 := by omega
    have hge : (1 : Int) ≤ m - c := by omega
    have hFF : (m - c == m - c) = true := by simp
    have hf5 : (m - c != 1) = true ∨ ((m - c != 1) = false ∧ V = R) := by
      by_cases h : m - c = 1
      · exact .inr ⟨by simp [h], f5 h⟩
      · exact .inl (by simpa using h)
    clear hck hr hn f1 f2 f3 f4 f5 f6 hn1 hn6
    rcases hf5 with hne | ⟨hne, rfl⟩
    · go_enter Tryd.func5, Tryd.ntmps5
      go_wp2_with fail
      refine kO.mono ?_
      rintro e w1 ⟨rfl, hb⟩
      replace X := X.step hb (scells (m - c) R T V I)
      replace B := bal2 B hb (scells (m - c) R T V I) B.size
      have Y := SBox.new w1 (m - c) R T V I
      clear hb kO
      have c0 := X.c0
      have c2 := X.c2
      have y0 := Y.c0
      have y1 := Y.c1
      have y2 := Y.c2
      have y3 := Y.c3
      have y4 := Y.c4
      go_wp2_with fail
      refine (kI _).mono ?_
      rintro e w2 ⟨rfl, rfl⟩
      go_wp2_with fail
      refine (hlive _ (hT.below B)).mono ?_
      rintro e w' ⟨rfl, hb⟩
      go_wp2
      go_ret
      exact ⟨rfl, B.trans (hb.mono B.size)⟩
    · go_enter Tryd.func5, Tryd.ntmps5
      go_wp2_with fail
      refine kO.mono ?_
      rintro e w1 ⟨rfl, hb⟩
      replace X := X.step hb (scells (m - c) V T V I)
      replace B := bal2 B hb (scells (m - c) V T V I) B.size
      have Y := SBox.new w1 (m - c) V T V I
      clear hb kO
      have c0 := X.c0
      have c2 := X.c2
      have y0 := Y.c0
      have y1 := Y.c1
      have y2 := Y.c2
      have y3 := Y.c3
      have y4 := Y.c4
      go_wp2_with fail
      refine (kI _).mono ?_
      rintro e w2 ⟨rfl, rfl⟩
      go_wp2_with fail
      refine (hlive _ (hT.below B)).mono ?_
      rintro e w' ⟨rfl, hb⟩
      go_wp2
      go_ret
      exact ⟨rfl, B.trans (hb.mono B.size)⟩
  · obtain ⟨y1, y2, y3, y4, y5, _⟩ := st_no hE
    rw [y1, y2, y3, y4, y5] at kO
    clear y1 y2 y3 y4 y5
    have kC := fun W (h : Below w.heap.size w W) => rcheck_c c m t _ xs W (hF.below h (Nat.le_refl _))
    have kF := stsame_c 0 0 0 0 0 (by decide) (by decide) (by decide) (by decide)
    cases hck : checkB c xs m t with
    | false =>
      rw [stE_arg hck] at kO
      rw [hck] at kC
      clear hE hck
      go_enter Tryd.func5, Tryd.ntmps5
      go_wp2_with fail
      refine kO.mono ?_
      rintro e w1 ⟨rfl, hb⟩
      replace X := X.step hb (scells 0 0 0 0 0)
      replace B := bal2 B hb (scells 0 0 0 0 0) B.size
      have Y := SBox.new w1 0 0 0 0 0
      clear hb kO
      have y0 := Y.c0
      have y1 := Y.c1
      have y2 := Y.c2
      have y3 := Y.c3
      have y4 := Y.c4
      go_wp2_with fail
      refine (kF _).mono ?_
      rintro e w2 ⟨rfl, hb⟩
      replace X := X.below hb (Nat.le_refl _)
      replace B := B.trans (hb.mono B.size)
      clear hb y0 y1 y2 y3 y4 Y
      have c0 := X.c0
      have c1 := X.c1
      have c2 := X.c2
      have c3 := X.c3
      go_wp2_with fail
      refine (kC _ B).mono ?_
      rintro e w3 ⟨rfl, hb⟩
      replace B := B.trans (hb.mono B.size)
      clear hb c0 c1 c2 c3
      go_wp2_with fail
      refine (hlive _ (hT.below B)).mono ?_
      rintro e w' ⟨rfl, hb⟩
      go_wp2
      go_ret
      exact ⟨rfl, B.trans (hb.mono B.size)⟩
    | true =>
      have hrc : m ≤ c := by
        rcases Int.lt_or_le c m with h | h
        · exact absurd (stE_yes hck h) hE
        · exact h
      rw [stE_few hck hrc] at kO
      rw [hck] at kC
      clear hE hck hrc
      go_enter Tryd.func5, Tryd.ntmps5
      go_wp2_with fail
      refine kO.mono ?_
      rintro e w1 ⟨rfl, hb⟩
      replace X := X.step hb (scells 0 0 0 0 0)
      replace B := bal2 B hb (scells 0 0 0 0 0) B.size
      have Y := SBox.new w1 0 0 0 0 0
      clear hb kO
      have y0 := Y.c0
      have y1 := Y.c1
      have y2 := Y.c2
      have y3 := Y.c3
      have y4 := Y.c4
      go_wp2_with fail
      refine (kF _).mono ?_
      rintro e w2 ⟨rfl, hb⟩
      replace X := X.below hb (Nat.le_refl _)
      replace B := B.trans (hb.mono B.size)
      clear hb y0 y1 y2 y3 y4 Y
      have c0 := X.c0
      have c1 := X.c1
      have c2 := X.c2
      have c3 := X.c3
      go_wp2_with fail
      refine (kC _ B).mono ?_
      rintro e w3 ⟨rfl, hb⟩
      replace B := B.trans (hb.mono B.size)
      clear hb c0 c1 c2 c3
      go_wp2_with fail
      refine (hlive _ (hT.below B)).mono ?_
      rintro e w' ⟨rfl, hb⟩
      go_wp2
      go_ret
      exact ⟨rfl, B.trans (hb.mono B.size)⟩
end Go.Proofs.YtbkmpoeaindnaaaDoor
