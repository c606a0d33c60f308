/- levellinglaw17.StatsTells: the walk. -/
import Derived.Test.YtbkmpoeaindnaaaDoorROfAll
import Derived.Test.YtbkmpoeaindnaaaDoorRSame
import Derived.Test.YtbkmpoeaindnaaaDoorLiveV
import Derived.Test.YtbkmpoeaindnaaaDoorArgs
namespace Go.Proofs.YtbkmpoeaindnaaaDoor
open Go.RowKit Go.Shelf Rnd

set_option maxRecDepth 100000 in
set_option maxHeartbeats 8000000 in
theorem tells_go (hlive : LiveC) (c m t : Int) (sv : Value) (w : World) (hT : Tab w) (h0 : Arg w sv) :
    Calls Tryd.prog 3 #[fv c sv m t] w fun e w' => e = .returned (.bool true) ∧ Below w.heap.size w w' := by
  obtain ⟨a, len, cap, rfl, hmax, hx⟩ := h0
  have B : Below w.heap.size w (w.alloc (fcells c (.slice a len cap) m t)) := (Below.refl _ w).alloc (Nat.le_refl _) _
  by_cases g0 : 60 < len
  · have g0' : (60 : Int) < (len : Int) := by omega
    go_enter Tryd.func3, Tryd.ntmps3
    go_wp2_with fail
    refine (hlive _ (hT.below B)).mono ?_
    rintro e w' ⟨rfl, hb⟩
    go_wp2
    go_ret
    exact ⟨rfl, B.trans (hb.mono B.size)⟩
  have g0' : ¬ (60 : Int) < (len : Int) := by omega
  obtain ⟨xs, hF, rfl⟩ := hx (by omega)
  clear hx
  have X := FBox.new w c (.slice a xs.length cap) m t
  have kO := of_all c m t _ xs _ (hT.below B) (hF.below B (Nat.le_refl _))
  have kP := fun W (h : Below w.heap.size w W) => rof_all c m t _ xs W (hF.below h (Nat.le_refl _))
  have kS := fun W (h : Below w.heap.size w W) => spread_all c m t _ xs W (hT.below h) (hF.below h (Nat.le_refl _))
  have kQ := fun W (h : Below w.heap.size w W) => rspread_all c m t _ xs W (hF.below h (Nat.le_refl _))
  unfold OfC at kO kP
  unfold SpC at kS kQ
  obtain ⟨l1, l2, l3, l4, l5⟩ := st_lt (c := c) (r := m) (t := t) hF.1
  generalize sF c xs m t = F at *
  generalize sR c xs m t = R at *
  generalize sT c xs m t = T at *
  generalize sV c xs m t = V at *
  generalize sI c xs m t = I at *
  generalize sS c xs m t = P at *
  generalize stE c xs m t = E at *
  have kE := same_c P P l5 l5
  rw [sameB_refl] at kE
  have kF := stsame_c F R T V I l1 l2 l3 l4
  go_enter Tryd.func3, Tryd.ntmps3
  go_wp2_with fail
  refine kO.mono ?_
  rintro e w1 ⟨rfl, hb⟩
  replace X := X.step hb (scells F R T V I)
  replace B := bal2 B hb (scells F R T V I) B.size
  have Y := SBox.new w1 F R T V I
  clear hb kO
  have c0 := X.c0
  have c1 := X.c1
  have c2 := X.c2
  have c3 := X.c3
  go_wp2_with fail
  refine (kP _ B).mono ?_
  rintro e w2 ⟨rfl, hb⟩
  replace X := X.step hb (scells F R T V I)
  replace B := bal2 B hb (scells F R T V I) B.size
  replace Y := Y.step hb (scells F R T V I)
  have Z := SBox.new w2 F R T V I
  clear hb kP c0 c1 c2 c3
  have c0 := X.c0
  have c1 := X.c1
  have c2 := X.c2
  have c3 := X.c3
  go_wp2_with fail
  refine (kS _ B).mono ?_
  rintro e w3 ⟨rfl, hb⟩
  replace X := X.below hb (Nat.le_refl _)
  replace B := B.trans (hb.mono B.size)
  replace Y := Y.below hb Y.lt
  replace Z := Z.below hb Z.lt
  clear hb kS c0 c1 c2 c3
  have c0 := X.c0
  have c1 := X.c1
  have c2 := X.c2
  have c3 := X.c3
  go_wp2_with fail
  refine (kQ _ B).mono ?_
  rintro e w4 ⟨rfl, hb⟩
  replace B := B.trans (hb.mono B.size)
  replace Y := Y.below hb Y.lt
  replace Z := Z.below hb Z.lt
  clear hb kQ c0 c1 c2 c3 X
  have y0 := Y.c0
  have y1 := Y.c1
  have y2 := Y.c2
  have y3 := Y.c3
  have y4 := Y.c4
  have z0 := Z.c0
  have z1 := Z.c1
  have z2 := Z.c2
  have z3 := Z.c3
  have z4 := Z.c4
  go_wp2_with fail
  refine (kF _).mono ?_
  rintro e w5 ⟨rfl, hb⟩
  replace B := B.trans (hb.mono B.size)
  clear hb y0 y1 y2 y3 y4 z0 z1 z2 z3 z4 Y Z
  go_wp2_with fail
  refine (kE _).mono ?_
  rintro e w6 ⟨rfl, rfl⟩
  go_wp2_with fail
  refine (hlive _ (hT.below B)).mono ?_
  rintro e w' ⟨rfl, hb⟩
  go_wp2
  go_ret
  exact ⟨rfl, B.trans (hb.mono B.size)⟩
end Go.Proofs.YtbkmpoeaindnaaaDoor
