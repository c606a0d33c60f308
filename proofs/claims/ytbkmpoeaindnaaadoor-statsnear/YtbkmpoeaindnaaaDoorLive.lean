/- levellinglaw17.live is true. -/
import Derived.Deep.RegionHeld3
import Derived.Test.YtbkmpoeaindnaaaDoorLiveV
namespace Go.Proofs.YtbkmpoeaindnaaaDoor
open Go.RowKit Go.Shelf Rnd

/-- A factor in a box, and its entries. -/
structure FX (W : World) (B : Nat) (c r t : Int) (sv : Value) (xs : List Nat) : Prop where
  x : FBox W B c sv r t
  f : Fls W sv xs
theorem FX.below {W W' : World} {B : Nat} {c r t : Int} {sv : Value} {xs : List Nat} (h : FX W B c r t sv xs) (hb : Below W.heap.size W W') : FX W' B c r t sv xs := ⟨h.x.below hb (Nat.le_refl _), h.f.below hb (Nat.le_refl _)⟩
theorem FX.step {W W' : World} {B : Nat} {c r t : Int} {sv : Value} {xs : List Nat} (h : FX W B c r t sv xs) (hb : Below W.heap.size W W') (o : Obj) : FX (W'.alloc o) B c r t sv xs := (h.below hb).below (ba W' o)
theorem l_f1 : (FloatKind.f64.format.order 4606355227031724868 4606281698874543309 == some Ordering.gt) = true := by decide +kernel
theorem l_f2 : (FloatKind.f64.format.order 4606355227031724868 4606371770867090719 == some Ordering.lt) = true := by decide +kernel
theorem l_s1 : (FloatKind.f64.format.order 4611959207554411737 4611956234405030134 == some Ordering.gt) = true := by decide +kernel
theorem l_s2 : (FloatKind.f64.format.order 4611959207554411737 4611978752403166986 == some Ordering.lt) = true := by decide +kernel

set_option maxRecDepth 100000 in
set_option maxHeartbeats 4000000 in
theorem live_c : LiveC := by
  intro w hT
  have hX := built_list w X6 okX6 (by decide)
  have xF : FX ((w.alloc (.cells (X6.map fl).toArray 26)).alloc (fcells 2 (.slice (some ⟨w.heap.size, 0, none⟩) 6 6) 4 0)) (w.heap.size + 1) 2 4 0 (.slice (some ⟨w.heap.size, 0, none⟩) 6 6) X6 := by
    refine ⟨?_, hX.below (ba _ _) (Nat.le_refl _)⟩
    have h := FBox.new (w.alloc (.cells (X6.map fl).toArray 26)) 2 (.slice (some ⟨w.heap.size, 0, none⟩) 6 6) 4 0
    rw [World.size_alloc] at h
    exact h
  have B : Below w.heap.size w ((w.alloc (.cells (X6.map fl).toArray 26)).alloc (fcells 2 (.slice (some ⟨w.heap.size, 0, none⟩) 6 6) 4 0)) := (ba w _).alloc (by simp) _
  clear hX
  have o1 := l_eq9
  have o2 := l_eq98
  have o3 := l_eq45
  have o4 := l_eq18
  have o5 := l_f1
  have o6 := l_f2
  have o7 := l_s1
  have o8 := l_s2
  go_enter Tryd.func9, Tryd.ntmps9
  go_wp2_with fail
  refine (lv_of _ _ (hT.below B) xF.f).mono ?_
  rintro e w1 ⟨rfl, hb⟩
  replace xF := xF.step hb (scells 2 4621256167635550208 4636596553866280960 4616752568008179712 4606355227031724868)
  replace B := bal2 B hb (scells 2 4621256167635550208 4636596553866280960 4616752568008179712 4606355227031724868) B.size
  have xS := SBox.new w1 2 4621256167635550208 4636596553866280960 4616752568008179712 4606355227031724868
  clear hb
  have c0 := xF.x.c0
  have c1 := xF.x.c1
  have c2 := xF.x.c2
  have c3 := xF.x.c3
  go_wp2_with fail
  refine (lv_sp _ _ (hT.below B) xF.f).mono ?_
  rintro e w2 ⟨rfl, hb⟩
  have xF2 := xF.below hb
  replace xS := xS.step hb (.cells ([4609434218613702656, 4611686018427387904].map fl).toArray 26)
  replace B := bal2 B hb (.cells ([4609434218613702656, 4611686018427387904].map fl).toArray 26) B.size
  clear c0 c1 c2 c3 hb xF
  have c0 := xF2.x.c0
  have c1 := xF2.x.c1
  have c2 := xF2.x.c2
  have c3 := xF2.x.c3
  have hL := built_list w2 [4609434218613702656, 4611686018427387904] okM (by decide)
  have xF := xF2.below (ba w2 (.cells ([4609434218613702656, 4611686018427387904].map fl).toArray 26))
  clear xF2
  go_wp2_with fail
  refine (lv_m _ _ _ (hT.below B) xF.f hL).mono ?_
  rintro e w3 ⟨rfl, hb⟩
  have xF2 := xF.below hb
  replace xS := xS.step hb (.cells ([0, 4611686018427387904].map fl).toArray 26)
  replace B := bal2 B hb (.cells ([0, 4611686018427387904].map fl).toArray 26) B.size
  clear c0 c1 c2 c3 hb xF hL
  have c0 := xF2.x.c0
  have c1 := xF2.x.c1
  have c2 := xF2.x.c2
  have c3 := xF2.x.c3
  have hL := built_list w3 [0, 4611686018427387904] okN (by decide)
  have xF := xF2.below (ba w3 (.cells ([0, 4611686018427387904].map fl).toArray 26))
  clear xF2
  go_wp2_with fail
  refine (lv_n _ _ _ (hT.below B) xF.f hL).mono ?_
  rintro e w4 ⟨rfl, hb⟩
  replace xF := xF.step hb (.cells (X3.map fl).toArray 26)
  replace xS := xS.step hb (.cells (X3.map fl).toArray 26)
  replace B := bal2 B hb (.cells (X3.map fl).toArray 26) B.size
  clear c0 c1 c2 c3 hb hL
  have hL := built_list w4 X3 okX3 (by decide)
  go_wp2_with fail
  refine (lv_1 _ _ (hT.below B) hL).mono ?_
  rintro e w5 ⟨rfl, hb⟩
  replace xF := xF.step hb (scells 0 0 0 0 0)
  replace xS := xS.step hb (scells 0 0 0 0 0)
  replace B := bal2 B hb (scells 0 0 0 0 0) B.size
  clear hb hL
  have c0 := xF.x.c0
  have c1 := xF.x.c1
  have c2 := xF.x.c2
  have c3 := xF.x.c3
  go_wp2_with fail
  refine (lv_0 _ _ (hT.below B) xF.f).mono ?_
  rintro e w6 ⟨rfl, hb⟩
  replace xS := xS.below hb xS.lt
  replace B := B.trans (hb.mono B.size)
  clear c0 c1 c2 c3 hb xF
  have s0 := xS.c0
  have s1 := xS.c1
  have s2 := xS.c2
  have s3 := xS.c3
  have s4 := xS.c4
  go_wp2
  go_ret
  exact ⟨rfl, B⟩
end Go.Proofs.YtbkmpoeaindnaaaDoor
