/- levellinglaw12.FadeTells: the walk. -/
import Derived.Test.YtdccjlaneobldaaDoorROften
import Derived.Test.YtdccjlaneobldaaDoorRefSame
import Derived.Test.YtdccjlaneobldaaDoorFY
import Derived.Test.YtdccjlaneobldaaDoorArgs
namespace Go.Proofs.YtdccjlaneobldaaDoor
open Go.RowKit Go.Shelf Rnd

set_option maxRecDepth 100000 in
set_option maxHeartbeats 16000000 in
theorem tells_go (hlive : LiveC) (c m t : Int) (sv : Value) (b : Nat) (k : Int) (w : World) (hT : Tab w) (h0 : Arg w sv) (hb64 : b < 18446744073709551616) :
    Calls Tryd.prog 3 #[fv c sv m t, fl b, .int .i64 k] w fun e w' => e = .returned (.bool true) ∧ Below w.heap.size w w' := by
  obtain ⟨a, len, cap, rfl, hmax, hx⟩ := h0
  have hB : Below w.heap.size w (w.alloc (fcells c (.slice a len cap) m t)) := (Below.refl _ w).alloc (Nat.le_refl _) _
  by_cases g0 : 60 < len
  · have g0' : (60 : Int) < (len : Int) := by omega
    go_enter Tryd.func3, Tryd.ntmps3
    go_wp2_with fail
    refine (hlive _ (hT.below hB)).mono ?_
    rintro e w' ⟨rfl, hb⟩
    go_wp2
    go_ret
    exact ⟨rfl, hB.trans (hb.mono hB.size)⟩
  have g0' : ¬ (60 : Int) < (len : Int) := by omega
  by_cases g1 : 40 < k ∧ k < 1000000
  · obtain ⟨g1, g2⟩ := g1
    go_enter Tryd.func3, Tryd.ntmps3
    go_wp2_with fail
    refine (hlive _ (hT.below hB)).mono ?_
    rintro e w' ⟨rfl, hb⟩
    go_wp2
    go_ret
    exact ⟨rfl, hB.trans (hb.mono hB.size)⟩
  obtain ⟨xs, hF, rfl⟩ := hx (by omega)
  clear hx
  have xF : FY (w.alloc (fcells c (.slice a xs.length cap) m t)) w.heap.size c m t (.slice a xs.length cap) xs := FY.new hF c m t
  have hk1 := factor_all c m t b _ xs _ (hT.below hB) xF.f hb64
  obtain ⟨mb, HB⟩ : ∃ mb, Hid (mayB b = mb) := ⟨_, rfl⟩
  have g1' : k ≤ 40 ∨ ¬ k < 1000000 := by omega
  clear g1
  have go : ∀ W, Below w.heap.size w W → FadeC 11 #[fv c (.slice a xs.length cap) m t, fl b, .int .i64 k] W c xs m t b k := fun W h => often_all c m t k b _ xs W (hT.below h) (hF.below h (Nat.le_refl _)) hb64
  have gr : ∀ W, Below w.heap.size w W → FadeC 12 #[fv c (.slice a xs.length cap) m t, fl b, .int .i64 k] W c xs m t b k := fun W h => roften_all c m t k b _ xs W (hF.below h (Nat.le_refl _)) hb64
  have gf : ∀ W, Below w.heap.size w W → FadeC 10 #[fv c (.slice a xs.length cap) m t, fl b] W c xs m t b 1 := fun W h => rfactor_all c m t b _ xs W (hF.below h (Nat.le_refl _)) hb64
  unfold FadeC at hk1 go gr gf
  generalize oC c xs m t b 1 = C1 at *
  generalize oR c xs m t b 1 = R1 at *
  generalize oT c xs m t b 1 = T1 at *
  generalize oE c xs m t b 1 = E1 at *
  generalize oL c xs m t b 1 = L1 at *
  generalize oC c xs m t b k = C2 at *
  generalize oR c xs m t b k = R2 at *
  generalize oT c xs m t b k = T2 at *
  generalize oE c xs m t b k = E2 at *
  generalize oL c xs m t b k = L2 at *
  go_enter Tryd.func3, Tryd.ntmps3
  rcases g1' with g1' | g1'
  all_goals
    go_wp2_with fail
    refine hk1.mono ?_
    rintro e w1 ⟨⟨a1, l1, k1, rfl, h1⟩, hb⟩
    have B := bal2 hB hb (fcells C1 (.slice a1 l1 k1) R1 T1)
    have yF := xF.step hb (fcells C1 (.slice a1 l1 k1) R1 T1)
    have y1 := FY.new h1 C1 R1 T1
    clear hb h1 hB
    have c0 := yF.x.c0
    have c1 := yF.x.c1
    have c2 := yF.x.c2
    have c3 := yF.x.c3
    go_wp2_with fail
    refine (gf _ B).mono ?_
    rintro e w2 ⟨⟨a2, l2, k2, rfl, h1⟩, hb⟩
    replace B := bal2 B hb (fcells C1 (.slice a2 l2 k2) R1 T1)
    replace yF := yF.step hb (fcells C1 (.slice a2 l2 k2) R1 T1)
    replace y1 := y1.step hb (fcells C1 (.slice a2 l2 k2) R1 T1)
    have y2 := FY.new h1 C1 R1 T1
    clear hb h1 c0 c1 c2 c3
    have c0 := yF.x.c0
    have c1 := yF.x.c1
    have c2 := yF.x.c2
    have c3 := yF.x.c3
    go_wp2_with fail
    refine (go _ B).mono ?_
    rintro e w3 ⟨⟨a3, l3, k3, rfl, h1⟩, hb⟩
    replace B := bal2 B hb (fcells C2 (.slice a3 l3 k3) R2 T2)
    replace yF := yF.step hb (fcells C2 (.slice a3 l3 k3) R2 T2)
    replace y1 := y1.step hb (fcells C2 (.slice a3 l3 k3) R2 T2)
    replace y2 := y2.step hb (fcells C2 (.slice a3 l3 k3) R2 T2)
    have y3 := FY.new h1 C2 R2 T2
    clear hb h1 c0 c1 c2 c3
    have c0 := yF.x.c0
    have c1 := yF.x.c1
    have c2 := yF.x.c2
    have c3 := yF.x.c3
    go_wp2_with fail
    refine (gr _ B).mono ?_
    rintro e w4 ⟨⟨a4, l4, k4, rfl, h1⟩, hb⟩
    replace B := bal2 B hb (fcells C2 (.slice a4 l4 k4) R2 T2)
    replace y1 := y1.step hb (fcells C2 (.slice a4 l4 k4) R2 T2)
    replace y2 := y2.step hb (fcells C2 (.slice a4 l4 k4) R2 T2)
    replace y3 := y3.step hb (fcells C2 (.slice a4 l4 k4) R2 T2)
    have y4 := FY.new h1 C2 R2 T2
    clear hb h1 c0 c1 c2 c3
    go_wp2_with fail
    refine (may_c b hb64 _ (hT.below B)).mono ?_
    rw [HB.out]
    rintro e w5 ⟨rfl, rfl⟩
    have c0 := y1.x.c0
    have c1 := y1.x.c1
    have c2 := y1.x.c2
    have c3 := y1.x.c3
    have d0 := y2.x.c0
    have d1 := y2.x.c1
    have d2 := y2.x.c2
    have d3 := y2.x.c3
    go_wp2_with fail
    refine (rmay_c b hb64 _).mono ?_
    rw [HB.out]
    rintro e w6 ⟨rfl, rfl⟩
    have hs := fsame_c C1 R1 T1 _ _ L1 L1 _ y1.f y2.f
    rw [allSame_refl] at hs
    go_wp2_with fail
    refine hs.mono ?_
    rintro e w7 ⟨rfl, hb⟩
    replace B := B.trans (hb.mono B.size)
    replace y3 := y3.below hb
    replace y4 := y4.below hb
    clear hb c0 c1 c2 c3 d0 d1 d2 d3 hs
    have c0 := y3.x.c0
    have c1 := y3.x.c1
    have c2 := y3.x.c2
    have c3 := y3.x.c3
    have d0 := y4.x.c0
    have d1 := y4.x.c1
    have d2 := y4.x.c2
    have d3 := y4.x.c3
    have hs := fsame_c C2 R2 T2 _ _ L2 L2 _ y3.f y4.f
    rw [allSame_refl] at hs
    go_wp2_with fail
    refine hs.mono ?_
    rintro e w8 ⟨rfl, hb⟩
    replace B := B.trans (hb.mono B.size)
    clear hb c0 c1 c2 c3 d0 d1 d2 d3 hs
    go_wp2_with fail
    refine (hlive _ (hT.below B)).mono ?_
    rintro e w' ⟨rfl, hb⟩
    go_wp2
    go_ret
    exact ⟨rfl, B.trans (hb.mono B.size)⟩
end Go.Proofs.YtdccjlaneobldaaDoor
