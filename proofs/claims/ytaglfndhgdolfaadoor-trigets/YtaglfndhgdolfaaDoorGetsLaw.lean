/- levellinglaw07.TriGets: the walk. -/
import Derived.Deep.RegionHeld3
import Derived.Test.YtaglfndhgdolfaaDoorGetsAll
namespace Go.Proofs.YtaglfndhgdolfaaDoor
open Go.RowKit Go.Shelf

set_option maxRecDepth 100000 in
set_option maxHeartbeats 80000000 in
theorem gets_go (hlive : LiveC) (c m t x y : Int) (sv lv : Value) (w : World) (hT : Tab w) (h0 : Arg w sv) (h2 : Arg w lv) :
    Calls Tryd.prog 4 #[fv c sv m t, .agg #[.int .i64 x, .int .i64 y], lv] w fun e w' => e = .returned (.bool true) ∧ Below w.heap.size w w' := by
  obtain ⟨a, len, cap, rfl, hmax, hx⟩ := h0
  obtain ⟨la, llen, lcap, rfl, hlmax, hlx⟩ := h2
  have B : Below w.heap.size w ((w.alloc (fcells c (.slice a len cap) m t)).alloc (.cells #[.int .i64 x, .int .i64 y] 36)) := ((Below.refl _ w).alloc (Nat.le_refl _) _).alloc (by simp) _
  by_cases g0 : 60 < len
  · have g0' : (60 : Int) < (len : Int) := by omega
    go_enter Tryd.func4, Tryd.ntmps4
    go_wp2_with fail
    refine (hlive _ (hT.below B)).mono ?_
    rintro e w' ⟨rfl, hb⟩
    go_wp2
    go_ret
    exact ⟨rfl, B.trans (hb.mono B.size)⟩
  have g0' : ¬ (60 : Int) < (len : Int) := by omega
  by_cases g1 : 20 < llen
  · have g1' : (20 : Int) < (llen : Int) := by omega
    go_enter Tryd.func4, Tryd.ntmps4
    go_wp2_with fail
    refine (hlive _ (hT.below B)).mono ?_
    rintro e w' ⟨rfl, hb⟩
    go_wp2
    go_ret
    exact ⟨rfl, B.trans (hb.mono B.size)⟩
  have g1' : ¬ (20 : Int) < (llen : Int) := by omega
  obtain ⟨xs, hF, rfl⟩ := hx (by omega)
  obtain ⟨l, hL, rfl⟩ := hlx (by omega)
  clear hx hlx
  have X : FBox ((w.alloc (fcells c (.slice a xs.length cap) m t)).alloc (.cells #[.int .i64 x, .int .i64 y] 36)) w.heap.size c (.slice a xs.length cap) m t := (FBox.new w _ _ _ _).below ((Below.refl _ _).alloc (Nat.le_refl _) _) (Nat.le_refl _)
  have A0 : ((w.alloc (fcells c (.slice a xs.length cap) m t)).alloc (.cells #[.int .i64 x, .int .i64 y] 36)).heap[w.heap.size + 1]? = some (.cells #[.int .i64 x, .int .i64 y] 36) := by
    have h := Go.Deep.blk_alloc_new (w.alloc (fcells c (.slice a xs.length cap) m t)) (.cells #[.int .i64 x, .int .i64 y] 36)
    rw [World.size_alloc] at h; exact h
  have HA : Hid (((w.alloc (fcells c (.slice a xs.length cap) m t)).alloc (.cells #[.int .i64 x, .int .i64 y] 36)).heap[w.heap.size + 1]? = some (.cells #[.int .i64 x, .int .i64 y] 36)) := A0
  clear A0
  obtain ⟨G, HG⟩ : ∃ G, Hid (getN c xs m t x y = G) := ⟨_, rfl⟩
  have hG : G < 18446744073709551616 := by rw [← HG.out]; exact getN_lt hF.1
  obtain ⟨L, HL⟩ : ∃ L, Hid (lineL c xs m t x = L) := ⟨_, rfl⟩
  obtain ⟨Y, HY⟩ : ∃ Y, Hid (setL c xs m t x l = Y) := ⟨_, rfl⟩
  obtain ⟨Z0, HZ0⟩ : ∃ Z0, Hid (setZ c xs m t x l c = Z0) := ⟨_, rfl⟩
  obtain ⟨Z1, HZ1⟩ : ∃ Z1, Hid (setZ c xs m t x l m = Z1) := ⟨_, rfl⟩
  obtain ⟨Z2, HZ2⟩ : ∃ Z2, Hid (setZ c xs m t x l t = Z2) := ⟨_, rfl⟩
  obtain ⟨ok, HOK⟩ : ∃ ok, Hid (setOk c xs m t x l = ok) := ⟨_, rfl⟩
  go_enter Tryd.func4, Tryd.ntmps4
  go_wp2_with fail
  refine (set_all c m t x _ _ xs l _ (hT.below B) (hF.below B (Nat.le_refl _)) (hL.below B (Nat.le_refl _))).mono ?_
  rw [HY.out, HZ0.out, HZ1.out, HZ2.out, HOK.out]
  rintro e w1 ⟨⟨a1, l1, c1, rfl, F1⟩, hb⟩
  have hb1 : Below w1.heap.size w1 (w1.alloc (fcells Z0 (.slice a1 l1 c1) Z1 Z2)) := (Below.refl _ w1).alloc (Nat.le_refl _) _
  have hb2 := hb.trans (hb1.mono hb.size)
  replace HA : Hid ((w1.alloc (fcells Z0 (.slice a1 l1 c1) Z1 Z2)).heap[w.heap.size + 1]? = some (.cells #[.int .i64 x, .int .i64 y] 36)) := (hb2.block _ (by simp)).trans HA.out
  replace X := X.below hb2 (Nat.le_refl _)
  replace B := B.trans (hb2.mono B.size)
  replace F1 := F1.below hb1 (Nat.le_refl _)
  have G1 := FBox.new w1 Z0 (.slice a1 l1 c1) Z1 Z2
  have p0 := X.c0
  have p1 := X.c1
  have p2 := X.c2
  have p3 := X.c3
  have q0 : (w1.alloc (fcells Z0 (.slice a1 l1 c1) Z1 Z2)).cell? ⟨w.heap.size + 1, 0, none⟩ = some (.int .i64 x) := by simp only [World.cell?, HA.out]; rfl
  clear hb hb1 hb2
  go_wp2_with fail
  refine (rset_all c m t x _ _ xs l _ (hF.below B (Nat.le_refl _)) (hL.below B (Nat.le_refl _))).mono ?_
  rw [HY.out, HZ0.out, HZ1.out, HZ2.out, HOK.out]
  rintro e w2 ⟨⟨a2, l2, c2, rfl, F2⟩, hb⟩
  have hb1 : Below w2.heap.size w2 (w2.alloc (fcells Z0 (.slice a2 l2 c2) Z1 Z2)) := (Below.refl _ w2).alloc (Nat.le_refl _) _
  have hb2 := hb.trans (hb1.mono hb.size)
  replace HA : Hid ((w2.alloc (fcells Z0 (.slice a2 l2 c2) Z1 Z2)).heap[w.heap.size + 1]? = some (.cells #[.int .i64 x, .int .i64 y] 36)) := (hb2.block _ (Array.getElem?_eq_some_iff.1 HA.out).1).trans HA.out
  replace X := X.below hb2 (Nat.le_refl _)
  replace B := B.trans (hb2.mono B.size)
  replace F1 := F1.below hb2 (Nat.le_refl _)
  replace F2 := F2.below hb1 (Nat.le_refl _)
  replace G1 := G1.below hb2 (Nat.le_refl _)
  have G2 := FBox.new w2 Z0 (.slice a2 l2 c2) Z1 Z2
  clear hb hb1 hb2 p0 p1 p2 p3 q0
  go_wp2_with fail
  generalize w1.heap.size = Q1 at *
  generalize w2.heap.size = Q2 at *
  generalize w2.alloc (fcells Z0 (.slice a2 l2 c2) Z1 Z2) = V at *
  have bD : Below V.heap.size V V.drew := (Below.refl _ _).drew
  have kG : Calls Tryd.prog 22 #[fv c (.slice a xs.length cap) m t, .int .i64 x, .int .i64 y] V.drew fun e w' => e = .returned (fl G) ∧ Below V.heap.size V w' := by
    have B' := B.trans (bD.mono B.size)
    have h := get_c c m t x y _ xs V.drew (hT.below B') (hF.below B' (Nat.le_refl _))
    rw [HG.out] at h
    exact h.mono fun e w' ⟨h1, h2⟩ => ⟨h1, bD.trans h2⟩
  have kH : ∀ w', Below V.heap.size V w' → Calls Tryd.prog 23 #[fv c (.slice a xs.length cap) m t, .int .i64 x, .int .i64 y] w' fun e w'' => e = .returned (fl G) ∧ Below V.heap.size V w'' := by
    intro w' hw
    have B' := B.trans (hw.mono B.size)
    have h := rget_c c m t x y _ xs w' (hF.below B' (Nat.le_refl _))
    rw [HG.out] at h
    exact h.mono fun e w'' ⟨h1, h2⟩ => ⟨h1, hw.trans (h2.mono hw.size)⟩
  have kE : ∀ w', Calls Tryd.prog 21 #[fl G, fl G] w' fun e w'' => e = .returned (.bool true) ∧ w'' = w' := by
    intro w'
    have h := same_c G G hG hG w'
    rwa [sameB_refl] at h
  have kL : ∀ w', Below V.heap.size V w' → Calls Tryd.prog 25 #[fv c (.slice a xs.length cap) m t, .int .i64 x] w' fun e w'' => (∃ a3 l3 c3, e = .returned (.slice a3 l3 c3) ∧ Fls w'' (.slice a3 l3 c3) L) ∧ Below w'.heap.size w' w'' := by
    intro w' hw
    have B' := B.trans (hw.mono B.size)
    have h := line_all c m t x _ xs w' (hT.below B') (hF.below B' (Nat.le_refl _))
    rwa [HL.out] at h
  have kM : ∀ w', Below V.heap.size V w' → Calls Tryd.prog 26 #[fv c (.slice a xs.length cap) m t, .int .i64 x] w' fun e w'' => (∃ a3 l3 c3, e = .returned (.slice a3 l3 c3) ∧ Fls w'' (.slice a3 l3 c3) L) ∧ Below w'.heap.size w' w'' := by
    intro w' hw
    have B' := B.trans (hw.mono B.size)
    have h := rline_all c m t x _ xs w' (hF.below B' (Nat.le_refl _))
    rwa [HL.out] at h
  have kA : ∀ w' a3 l3 c3 a4 l4 c4, Fls w' (.slice a3 l3 c3) L → Fls w' (.slice a4 l4 c4) L → Below V.heap.size V w' → Calls Tryd.prog 24 #[.slice a3 l3 c3, .slice a4 l4 c4] w' fun e w'' => e = .returned (.bool true) ∧ Below V.heap.size V w'' := by
    intro w' a3 l3 c3 a4 l4 c4 h3 h4 hw
    have h := all_c _ _ L L w' h3 h4
    rw [allSame_refl] at h
    exact h.mono fun e w'' ⟨h1, h2⟩ => ⟨h1, hw.trans (h2.mono hw.size)⟩
  have kF : ∀ w', Below V.heap.size V w' → Calls Tryd.prog 16 #[fv Z0 (.slice a1 l1 c1) Z1 Z2, fv Z0 (.slice a2 l2 c2) Z1 Z2] w' fun e w'' => e = .returned (.bool true) ∧ Below V.heap.size V w'' := by
    intro w' hw
    have h := fsame_c Z0 Z1 Z2 _ _ Y Y w' (F1.below hw (Nat.le_refl _)) (F2.below hw (Nat.le_refl _))
    rw [allSame_refl] at h
    exact h.mono fun e w'' ⟨h1, h2⟩ => ⟨h1, hw.trans (h2.mono hw.size)⟩
  have kV : ∀ w', Below V.heap.size V w' → Calls Tryd.prog 9 #[] w' fun e w'' => e = .returned (.bool true) ∧ Below V.heap.size V w'' := by
    intro w' hw
    exact (hlive w' (hT.below (B.trans (hw.mono B.size)))).mono fun e w'' ⟨h1, h2⟩ => ⟨h1, hw.trans (h2.mono hw.size)⟩
  have mk : ∀ w', Below V.heap.size V w' → (w'.cell? ⟨w.heap.size, 0, none⟩ = some (.int .i64 c) ∧ w'.cell? ⟨w.heap.size, 1, none⟩ = some (.slice a xs.length cap) ∧ w'.cell? ⟨w.heap.size, 2, none⟩ = some (.int .i64 m) ∧ w'.cell? ⟨w.heap.size, 3, none⟩ = some (.int .i64 t) ∧ w'.cell? ⟨w.heap.size + 1, 0, none⟩ = some (.int .i64 x) ∧ w'.cell? ⟨w.heap.size + 1, 1, none⟩ = some (.int .i64 y) ∧ w'.cell? ⟨Q1, 0, none⟩ = some (.int .i64 Z0) ∧ w'.cell? ⟨Q1, 1, none⟩ = some (.slice a1 l1 c1) ∧ w'.cell? ⟨Q1, 2, none⟩ = some (.int .i64 Z1) ∧ w'.cell? ⟨Q1, 3, none⟩ = some (.int .i64 Z2) ∧ w'.cell? ⟨Q2, 0, none⟩ = some (.int .i64 Z0) ∧ w'.cell? ⟨Q2, 1, none⟩ = some (.slice a2 l2 c2) ∧ w'.cell? ⟨Q2, 2, none⟩ = some (.int .i64 Z1) ∧ w'.cell? ⟨Q2, 3, none⟩ = some (.int .i64 Z2)) := fun w' hw => by
    have p := X.below hw (Nat.le_refl _)
    have q := G1.below hw (Nat.le_refl _)
    have r := G2.below hw (Nat.le_refl _)
    have hA : w'.heap[w.heap.size + 1]? = some (.cells #[.int .i64 x, .int .i64 y] 36) := (hw.block _ (Array.getElem?_eq_some_iff.1 HA.out).1).trans HA.out
    exact ⟨p.c0, p.c1, p.c2, p.c3, by simp only [World.cell?, hA]; rfl, by simp only [World.cell?, hA]; rfl, q.c0, q.c1, q.c2, q.c3, r.c0, r.c1, r.c2, r.c3⟩
  clear F1 F2 HG HL HY HZ0 HZ1 HZ2 HOK
  go_region_held3 (fun w' => w'.cell? ⟨w.heap.size, 0, none⟩ = some (.int .i64 c) ∧ w'.cell? ⟨w.heap.size, 1, none⟩ = some (.slice a xs.length cap) ∧ w'.cell? ⟨w.heap.size, 2, none⟩ = some (.int .i64 m) ∧ w'.cell? ⟨w.heap.size, 3, none⟩ = some (.int .i64 t) ∧ w'.cell? ⟨w.heap.size + 1, 0, none⟩ = some (.int .i64 x) ∧ w'.cell? ⟨w.heap.size + 1, 1, none⟩ = some (.int .i64 y) ∧ w'.cell? ⟨Q1, 0, none⟩ = some (.int .i64 Z0) ∧ w'.cell? ⟨Q1, 1, none⟩ = some (.slice a1 l1 c1) ∧ w'.cell? ⟨Q1, 2, none⟩ = some (.int .i64 Z1) ∧ w'.cell? ⟨Q1, 3, none⟩ = some (.int .i64 Z2) ∧ w'.cell? ⟨Q2, 0, none⟩ = some (.int .i64 Z0) ∧ w'.cell? ⟨Q2, 1, none⟩ = some (.slice a2 l2 c2) ∧ w'.cell? ⟨Q2, 2, none⟩ = some (.int .i64 Z1) ∧ w'.cell? ⟨Q2, 3, none⟩ = some (.int .i64 Z2)) (exact mk _ (by assumption)) ((first | (go_at_call 22; with_reducible refine kG.mono ?_; rintro e w3 ⟨rfl, hb3⟩) | (go_at_call 23; with_reducible refine (kH w3 hb3).mono ?_; rintro e w4 ⟨rfl, hb4⟩) | (go_at_call 21; refine (kE _).mono ?_; rintro e w' ⟨rfl, rfl⟩) | (go_at_call 25; with_reducible refine (kL _ hb4).mono ?_; rintro e w5 ⟨⟨a3, l3, c3, rfl, F3⟩, hb5⟩; have hb5' := hb4.trans (hb5.mono hb4.size)) | (go_at_call 26; with_reducible refine (kM w5 hb5').mono ?_; rintro e w6 ⟨⟨a4, l4, c4, rfl, F4⟩, hb6⟩; have hb6' := hb5'.trans (hb6.mono hb5'.size); have F5 := F3.below hb6 (Nat.le_refl _)) | (go_at_call 24; with_reducible refine (kA w6 _ _ _ _ _ _ F5 F4 hb6').mono ?_; rintro e w7 ⟨rfl, hb7⟩) | (go_at_call 16; with_reducible refine (kF w7 hb7).mono ?_; rintro e w8 ⟨rfl, hb8⟩) | (go_at_call 9; refine (kV w8 hb8).mono ?_; rintro e w9 ⟨rfl, hb9⟩)))
  all_goals
    go_wp2
    go_ret
    exact ⟨by first | rfl | exact ret_bool (by simp), B.trans (hb9.mono B.size)⟩
end Go.Proofs.YtaglfndhgdolfaaDoor
