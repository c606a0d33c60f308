/- levellinglaw17.StatsMiss: the walk. -/
import Derived.Test.YtbkmpoeaindnaaaDoorRMiss
import Derived.Test.YtbkmpoeaindnaaaDoorLiveV
import Derived.Test.YtbkmpoeaindnaaaDoorArgs
namespace Go.Proofs.YtbkmpoeaindnaaaDoor
open Go.RowKit Go.Shelf Rnd

set_option maxRecDepth 100000 in
set_option maxHeartbeats 8000000 in
theorem miss_go (hlive : LiveC) (c m t : Int) (sv lv : Value) (w : World) (hT : Tab w) (h0 : Arg w sv) (h2 : Arg w lv) :
    Calls Tryd.prog 4 #[fv c sv m t, lv] w fun e w' => e = .returned (.bool true) ∧ Below w.heap.size w w' := by
  obtain ⟨a, len, cap, rfl, hmax, hx⟩ := h0
  obtain ⟨la, llen, lcap, rfl, hlmax, hlx⟩ := h2
  have B : Below w.heap.size w (w.alloc (fcells c (.slice a len cap) m t)) := (Below.refl _ w).alloc (Nat.le_refl _) _
  by_cases g0 : 60 < len
  · have g0' : (60 : Int) < (len : Int) := by omega
    go_enter Tryd.func4, Tryd.ntmps4
    go_wp2_with fail
    refine (hlive _ (hT.below B)).mono ?_
    rintro e w' ⟨rfl, hb⟩
    go_wp2
    go_ret
    exact ⟨rfl, B.trans (hb.mono B.size)⟩
  have g0' : ¬ (60 : Int) < (len : Int) := by omega
  by_cases g1 : 20 < llen
  · have g1' : (20 : Int) < (llen : Int) := by omega
    go_enter Tryd.func4, Tryd.ntmps4
    go_wp2_with fail
    refine (hlive _ (hT.below B)).mono ?_
    rintro e w' ⟨rfl, hb⟩
    go_wp2
    go_ret
    exact ⟨rfl, B.trans (hb.mono B.size)⟩
  have g1' : ¬ (20 : Int) < (llen : Int) := by omega
  obtain ⟨xs, hF, rfl⟩ := hx (by omega)
  obtain ⟨ls, hL, rfl⟩ := hlx (by omega)
  clear hx hlx
  have X := FBox.new w c (.slice a xs.length cap) m t
  have kM := miss_all c m t _ _ xs ls _ (hT.below B) (hF.below B (Nat.le_refl _)) (hL.below B (Nat.le_refl _))
  have kR := fun W (h : Below w.heap.size w W) => rmiss_all c m t _ _ xs ls W (hF.below h (Nat.le_refl _)) (hL.below h (Nat.le_refl _))
  unfold MisC at kM kR
  have hV : miV c xs m t ls < 18446744073709551616 := by
    unfold miV
    split
    · next h =>
      obtain ⟨_, _, h3⟩ := miE_zero h
      cases ho : missC c c.toNat xs m t ls with
      | none => decide
      | some z =>
        unfold missC asqC opC at ho
        simp only [Option.bind_eq_some_iff] at ho
        obtain ⟨_, _, _, _, hz⟩ := ho
        exact (fb_ok hz).1
    · decide
  generalize miV c xs m t ls = V at *
  generalize miE c xs m t ls = E at *
  have kS := same_c V V hV hV
  rw [sameB_refl] at kS
  go_enter Tryd.func4, Tryd.ntmps4
  go_wp2_with fail
  refine kM.mono ?_
  rintro e w1 ⟨rfl, hb⟩
  replace X := X.below hb (Nat.le_refl _)
  replace B := B.trans (hb.mono B.size)
  clear hb
  have c0 := X.c0
  have c1 := X.c1
  have c2 := X.c2
  have c3 := X.c3
  go_wp2_with fail
  refine (kR _ B).mono ?_
  rintro e w2 ⟨rfl, hb⟩
  replace B := B.trans (hb.mono B.size)
  clear hb c0 c1 c2 c3 X
  go_wp2_with fail
  refine (kS _).mono ?_
  rintro e w3 ⟨rfl, rfl⟩
  go_wp2_with fail
  refine (hlive _ (hT.below B)).mono ?_
  rintro e w' ⟨rfl, hb⟩
  go_wp2
  go_ret
  exact ⟨rfl, B.trans (hb.mono B.size)⟩
end Go.Proofs.YtbkmpoeaindnaaaDoor
