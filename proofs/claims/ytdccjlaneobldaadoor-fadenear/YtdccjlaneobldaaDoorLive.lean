/- levellinglaw12.live is true. -/
import Derived.Test.YtdccjlaneobldaaDoorLive0
namespace Go.Proofs.YtdccjlaneobldaaDoor
open Go.RowKit Go.Shelf Rnd

/-- A factor in a box, and its entries. -/
structure FX (W : World) (B : Nat) (c r t : Int) (sv : Value) (xs : List Nat) : Prop where
  x : FBox W B c sv r t
  f : Fls W sv xs
theorem FX.below {W W' : World} {B : Nat} {c r t : Int} {sv : Value} {xs : List Nat} (h : FX W B c r t sv xs) (hb : Below W.heap.size W W') : FX W' B c r t sv xs := ⟨h.x.below hb (Nat.le_refl _), h.f.below hb (Nat.le_refl _)⟩
theorem FX.new {w : World} {sv : Value} {xs : List Nat} (h : Fls w sv xs) (c r t : Int) : FX (w.alloc (fcells c sv r t)) w.heap.size c r t sv xs := ⟨FBox.new _ _ _ _ _, h.below ((Below.refl _ w).alloc (Nat.le_refl _) _) (Nat.le_refl _)⟩
theorem ba (w : World) (o : Obj) : Below w.heap.size w (w.alloc o) := (Below.refl _ w).alloc (Nat.le_refl _) o
theorem ord_eq1 : (FloatKind.f64.format.order 4609434218613702656 4609434218613702656 == some Ordering.eq) = true := by decide +kernel
theorem ord_eq2 : (FloatKind.f64.format.order 13826050856027422720 13826050856027422720 == some Ordering.eq) = true := by decide +kernel
theorem ord_eq3 : (FloatKind.f64.format.order 4602678819172646912 4602678819172646912 == some Ordering.eq) = true := by decide +kernel

set_option maxRecDepth 100000 in
set_option maxHeartbeats 8000000 in
theorem live_c (w : World) (hT : Tab w) : Calls Tryd.prog 8 #[] w fun e w' => e = .returned (.bool true) ∧ Below w.heap.size w w' := by
  have f0 := built_list w X3 okX3 (by decide)
  have x0 : FX ((w.alloc (.cells (X3.map fl).toArray 25)).alloc (fcells 1 (.slice (some ⟨w.heap.size, 0, none⟩) 3 3) 2 4)) (w.heap.size + 1) 1 2 4 (.slice (some ⟨w.heap.size, 0, none⟩) 3 3) X3 := by
    have h := FX.new f0 1 2 4
    rw [World.size_alloc] at h
    exact h
  have b0 : Below w.heap.size w ((w.alloc (.cells (X3.map fl).toArray 25)).alloc (fcells 1 (.slice (some ⟨w.heap.size, 0, none⟩) 3 3) 2 4)) := ((Below.refl _ w).alloc (Nat.le_refl _) _).alloc (by simp) _
  clear f0
  go_enter Tryd.func8, Tryd.ntmps8
  go_wp2_with fail
  refine (live_half _ _ (hT.below b0) x0.f).mono ?_
  rintro e w1 ⟨⟨gb, goff, gcap, rfl, hg⟩, hb⟩
  have xF := (x0.below hb).below (ba w1 (fcells 1 (.slice (some ⟨gb, goff, none⟩) 3 gcap) 2 5))
  have xG := FX.new hg 1 2 5
  have B : Below w.heap.size w (w1.alloc (fcells 1 (.slice (some ⟨gb, goff, none⟩) 3 gcap) 2 5)) := (b0.trans (hb.mono b0.size)).trans ((ba w1 _).mono (b0.trans (hb.mono b0.size)).size)
  clear x0 b0 hb hg
  generalize w.heap.size + 1 = BF at *
  have c0 := xF.x.c0
  have c1 := xF.x.c1
  have c2 := xF.x.c2
  have c3 := xF.x.c3
  go_wp2_with fail
  refine (live_more _ _ (hT.below B) xF.f).mono ?_
  rintro e w2 ⟨⟨a2, l2, k2, rfl⟩, hb⟩
  replace B := (B.trans (hb.mono B.size)).trans ((ba w2 (fcells 0 (.slice a2 l2 k2) 0 0)).mono (B.trans (hb.mono B.size)).size)
  replace xF := (xF.below hb).below (ba w2 (fcells 0 (.slice a2 l2 k2) 0 0))
  replace xG := (xG.below hb).below (ba w2 (fcells 0 (.slice a2 l2 k2) 0 0))
  clear hb c0 c1 c2 c3
  go_wp2_with fail
  refine (live_zero _ (hT.below B)).mono ?_
  rintro e w3 ⟨⟨a3, l3, k3, rfl⟩, hb⟩
  replace B := (B.trans (hb.mono B.size)).trans ((ba w3 (fcells 0 (.slice a3 l3 k3) 0 0)).mono (B.trans (hb.mono B.size)).size)
  replace xF := (xF.below hb).below (ba w3 (fcells 0 (.slice a3 l3 k3) 0 0))
  replace xG := (xG.below hb).below (ba w3 (fcells 0 (.slice a3 l3 k3) 0 0))
  clear hb
  have c0 := xF.x.c0
  have c1 := xF.x.c1
  have c2 := xF.x.c2
  have c3 := xF.x.c3
  have hl := built_list (w3.alloc (fcells 0 (.slice a3 l3 k3) 0 0)) [4602678819172646912, 0] okL2 (by decide)
  have hb := ba (w3.alloc (fcells 0 (.slice a3 l3 k3) 0 0)) (.cells ([4602678819172646912, 0].map fl).toArray 25)
  rw [World.size_alloc] at hl
  replace B := B.trans (hb.mono B.size)
  replace xF := xF.below hb
  replace xG := xG.below hb
  clear hb
  go_wp2_with fail
  refine (live_all _ _ _ (hT.below B) xF.f hl).mono ?_
  rintro e w4 ⟨⟨a4, l4, k4, rfl, hh⟩, hb⟩
  have xH := FX.new hh 1 2 5
  replace B := (B.trans (hb.mono B.size)).trans ((ba w4 (fcells 1 (.slice a4 l4 k4) 2 5)).mono (B.trans (hb.mono B.size)).size)
  replace xF := (xF.below hb).below (ba w4 (fcells 1 (.slice a4 l4 k4) 2 5))
  replace xG := (xG.below hb).below (ba w4 (fcells 1 (.slice a4 l4 k4) 2 5))
  clear hb hh hl c0 c1 c2 c3
  have c0 := xF.x.c0
  have c1 := xF.x.c1
  have c2 := xF.x.c2
  have c3 := xF.x.c3
  go_wp2_with fail
  refine (live_two _ _ (hT.below B) xF.f).mono ?_
  rintro e w5 ⟨⟨b5, o5, k5, rfl, hk⟩, hb⟩
  have xK := FX.new hk 1 2 6
  replace B := (B.trans (hb.mono B.size)).trans ((ba w5 (fcells 1 (.slice (some ⟨b5, o5, none⟩) 3 k5) 2 6)).mono (B.trans (hb.mono B.size)).size)
  replace xF := (xF.below hb).below (ba w5 (fcells 1 (.slice (some ⟨b5, o5, none⟩) 3 k5) 2 6))
  replace xG := (xG.below hb).below (ba w5 (fcells 1 (.slice (some ⟨b5, o5, none⟩) 3 k5) 2 6))
  replace xH := (xH.below hb).below (ba w5 (fcells 1 (.slice (some ⟨b5, o5, none⟩) 3 k5) 2 6))
  clear hb hk c0 c1 c2 c3
  have c0 := xF.x.c0
  have c1 := xF.x.c1
  have c2 := xF.x.c2
  have c3 := xF.x.c3
  go_wp2_with fail
  refine (live_many _ _ (hT.below B) xF.f).mono ?_
  rintro e w6 ⟨⟨a6, l6, k6, rfl⟩, hb⟩
  replace B := (B.trans (hb.mono B.size)).trans ((ba w6 (fcells 0 (.slice a6 l6 k6) 0 0)).mono (B.trans (hb.mono B.size)).size)
  replace xF := (xF.below hb).below (ba w6 (fcells 0 (.slice a6 l6 k6) 0 0))
  replace xG := (xG.below hb).below (ba w6 (fcells 0 (.slice a6 l6 k6) 0 0))
  replace xH := (xH.below hb).below (ba w6 (fcells 0 (.slice a6 l6 k6) 0 0))
  replace xK := (xK.below hb).below (ba w6 (fcells 0 (.slice a6 l6 k6) 0 0))
  clear hb c0 c1 c2 c3
  have g0 := xG.x.c0
  have g1 := xG.x.c1
  have g2 := xG.x.c2
  have g3 := xG.x.c3
  have h0 := xH.x.c0
  have h1 := xH.x.c1
  have h2 := xH.x.c2
  have h3 := xH.x.c3
  obtain ⟨_, _, _, e, _, _, hcs⟩ := xG.f.cell (by decide)
  cases e
  have v0 : (w6.alloc (fcells 0 (.slice a6 l6 k6) 0 0)).cell? ⟨gb, goff, none⟩ = some (fl 4609434218613702656) := hcs 0 (by decide)
  have v1 : (w6.alloc (fcells 0 (.slice a6 l6 k6) 0 0)).cell? ⟨gb, goff + 1, none⟩ = some (fl 13826050856027422720) := hcs 1 (by decide)
  have o1 := ord_eq1
  have o2 := ord_eq2
  clear hcs
  go_wp2_with fail
  refine (live_same _ _ _ xH.f xG.f).mono ?_
  rintro e w7 ⟨rfl, hb⟩
  replace B := B.trans (hb.mono B.size)
  replace xK := xK.below hb
  clear hb g0 g1 g2 g3 h0 h1 h2 h3 v0 v1 o1 o2 xF xG xH
  have g1 := xK.x.c1
  have g3 := xK.x.c3
  obtain ⟨_, _, _, e, _, _, hcs⟩ := xK.f.cell (by decide)
  cases e
  have v0 : w7.cell? ⟨b5, o5 + 2, none⟩ = some (fl 4602678819172646912) := hcs 2 (by decide)
  have o3 := ord_eq3
  clear hcs
  go_wp2_with fail
  refine (live_may1 _ (hT.below B)).mono ?_
  rintro e w8 ⟨rfl, rfl⟩
  go_wp2_with fail
  refine (live_may0 _ (hT.below B)).mono ?_
  rintro e w9 ⟨rfl, rfl⟩
  go_wp2
  go_ret
  exact ⟨rfl, B⟩
end Go.Proofs.YtdccjlaneobldaaDoor
