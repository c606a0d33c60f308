/- levellinglaw07.TriTells: the walk. -/
import Derived.BigQuiet
import Derived.Deep.RegionWith
import Derived.Deep.RegionHeld3
import Derived.Test.YtaglfndhgdolfaaDoorRefSame
import Derived.Test.YtaglfndhgdolfaaDoorRefCheck
import Derived.Test.YtaglfndhgdolfaaDoorRefNew
import Derived.Test.YtaglfndhgdolfaaDoorArgs
namespace Go.Proofs.YtaglfndhgdolfaaDoor
open Go.RowKit Go.Shelf

/-- What At tells. -/
def atK (c i j : Int) : Int := if inTri c i j then ((place c.toNat i.toNat + (j.toNat - i.toNat) : Nat) : Int) else 0
theorem at_all (c i j : Int) (w : World) : Calls Tryd.prog 10 #[.int .i64 c, .int .i64 i, .int .i64 j] w fun e w' => e = .returned (.tuple #[.int .i64 (atK c i j), .bool (decide (inTri c i j))]) ∧ Below w.heap.size w w' := by
  by_cases h : inTri c i j
  · unfold atK
    rw [if_pos h, decide_eq_true h]
    obtain ⟨n, a, b, rfl, rfl, rfl, h1, h6, hij, hjn⟩ := inTri_nat h
    simp only [Int.toNat_natCast]
    exact at_yes n a b w h1 h6 hij hjn
  · unfold atK
    rw [if_neg h, decide_eq_false h]
    exact at_no c i j w h
theorem rat_all (c i j : Int) (w : World) : Calls Tryd.prog 11 #[.int .i64 c, .int .i64 i, .int .i64 j] w fun e w' => e = .returned (.tuple #[.int .i64 (atK c i j), .bool (decide (inTri c i j))]) ∧ w' = w := by
  by_cases h : inTri c i j
  · unfold atK
    rw [if_pos h, decide_eq_true h]
    obtain ⟨n, a, b, rfl, rfl, rfl, h1, h6, hij, hjn⟩ := inTri_nat h
    simp only [Int.toNat_natCast]
    exact rat_yes n a b w h1 h6 hij hjn
  · unfold atK
    rw [if_neg h, decide_eq_false h]
    exact rat_no c i j w h

/-- What New tells. -/
def newC (c : Int) : Int := if 1 ≤ c ∧ c ≤ 6 then c else 0
def newE (c : Int) : Int := if 1 ≤ c ∧ c ≤ 6 then 0 else 1
def newL (c : Int) : List Nat := if 1 ≤ c ∧ c ≤ 6 then List.replicate ((c.toNat + 1) * (c.toNat + 2) / 2) 0 else []
theorem okF_rep0 (n : Nat) : okF (List.replicate n 0) := by
  intro x hx
  have := List.eq_of_mem_replicate hx; omega
theorem new_all (c : Int) (w : World) : Calls Tryd.prog 12 #[.int .i64 c] w fun e w' => (∃ a len cap, e = .returned (.tuple #[fv (newC c) (.slice a len cap) 0 0, .int .i64 (newE c)]) ∧ Fls w' (.slice a len cap) (newL c)) ∧ Below w.heap.size w w' := by
  unfold newC newE newL
  by_cases h : 1 ≤ c ∧ c ≤ 6
  · rw [if_pos h, if_pos h, if_pos h]
    obtain ⟨n, rfl⟩ : ∃ n : Nat, c = (n : Int) := ⟨c.toNat, by omega⟩
    simp only [Int.toNat_natCast]
    refine (new_yes n w (by omega) (by omega)).mono ?_
    rintro e w' ⟨⟨g, he, _, hR⟩, hb⟩
    have hs := sizeZ_nat n (by omega) (by omega)
    have hs0 := (sizeZ_pos (c := (n : Int)) (by omega))
    have h1 := hR.fls (okF_rep0 _) (by rw [List.length_replicate]; omega)
    rw [List.length_replicate] at h1
    exact ⟨⟨_, _, _, he, h1⟩, hb⟩
  · rw [if_neg h, if_neg h, if_neg h]
    refine (new_no c w h).mono ?_
    rintro e w' ⟨he, hb⟩
    exact ⟨⟨_, _, _, he, Fls.nil _⟩, hb⟩
theorem rnew_all (c : Int) (w : World) : Calls Tryd.prog 13 #[.int .i64 c] w fun e w' => (∃ a len cap, e = .returned (.tuple #[fv (newC c) (.slice a len cap) 0 0, .int .i64 (newE c)]) ∧ Fls w' (.slice a len cap) (newL c)) ∧ Below w.heap.size w w' := by
  unfold newC newE newL
  by_cases h : 1 ≤ c ∧ c ≤ 6
  · rw [if_pos h, if_pos h, if_pos h]
    obtain ⟨n, rfl⟩ : ∃ n : Nat, c = (n : Int) := ⟨c.toNat, by omega⟩
    simp only [Int.toNat_natCast]
    refine (rnew_yes n w (by omega) (by omega)).mono ?_
    rintro e w' ⟨⟨g, he, _, hR⟩, hb⟩
    have hs := sizeZ_nat n (by omega) (by omega)
    have hs0 := (sizeZ_pos (c := (n : Int)) (by omega))
    have h1 := hR.fls (okF_rep0 _) (by rw [List.length_replicate]; omega)
    rw [List.length_replicate] at h1
    exact ⟨⟨_, _, _, he, h1⟩, hb⟩
  · rw [if_neg h, if_neg h, if_neg h]
    refine (rnew_no c w h).mono ?_
    rintro e w' ⟨he, hb⟩
    exact ⟨⟨_, _, _, he, Fls.nil _⟩, hb⟩

set_option maxRecDepth 100000 in
set_option maxHeartbeats 80000000 in
theorem tells_go (hlive : LiveC) (c m t x y z : Int) (sv : Value) (w : World) (hT : Tab w) (h0 : Arg w sv) :
    Calls Tryd.prog 3 #[fv c sv m t, .agg #[.int .i64 x, .int .i64 y, .int .i64 z]] w fun e w' => e = .returned (.bool true) ∧ Below w.heap.size w w' := by
  obtain ⟨a, len, cap, rfl, hmax, hx⟩ := h0
  have hB : Below w.heap.size w ((w.alloc (fcells c (.slice a len cap) m t)).alloc (.cells #[.int .i64 x, .int .i64 y, .int .i64 z] 25)) := ((Below.refl _ w).alloc (Nat.le_refl _) _).alloc (by simp) _
  have X0 : FBox ((w.alloc (fcells c (.slice a len cap) m t)).alloc (.cells #[.int .i64 x, .int .i64 y, .int .i64 z] 25)) w.heap.size c (.slice a len cap) m t := (FBox.new w _ _ _ _).below ((Below.refl _ _).alloc (Nat.le_refl _) _) (Nat.le_refl _)
  go_enter Tryd.func3, Tryd.ntmps3
  go_wp2_with fail
  go_quiet (fail)
  have B : Below w.heap.size w (((w.alloc (fcells c (.slice a len cap) m t)).alloc (.cells #[.int .i64 x, .int .i64 y, .int .i64 z] 25)).drewN nq) := below_drewN hB _
  have X : FBox (((w.alloc (fcells c (.slice a len cap) m t)).alloc (.cells #[.int .i64 x, .int .i64 y, .int .i64 z] 25)).drewN nq) w.heap.size c (.slice a len cap) m t := X0.below (below_drewN (Below.refl _ _) _) (Nat.le_refl _)
  clear X0 hB
  generalize ((w.alloc (fcells c (.slice a len cap) m t)).alloc (.cells #[.int .i64 x, .int .i64 y, .int .i64 z] 25)).drewN nq = W at *
  have x1 := X.c1
  by_cases g0 : 60 < len
  · have g0' : (60 : Int) < (len : Int) := by omega
    go_wp2_with fail
    refine (hlive _ (hT.below B)).mono ?_
    rintro e w' ⟨rfl, hb⟩
    go_wp2
    go_ret
    exact ⟨rfl, B.trans (hb.mono B.size)⟩
  have g0' : ¬ (60 : Int) < (len : Int) := by omega
  obtain ⟨xs, hF, rfl⟩ := hx (by omega)
  clear hx
  obtain ⟨K, HK⟩ : ∃ K, Hid (atK x y z = K) := ⟨_, rfl⟩
  obtain ⟨b, Hb⟩ : ∃ b, Hid (decide (inTri x y z) = b) := ⟨_, rfl⟩
  obtain ⟨C, HC⟩ : ∃ C, Hid (newC x = C) := ⟨_, rfl⟩
  obtain ⟨E, HE⟩ : ∃ E, Hid (newE x = E) := ⟨_, rfl⟩
  obtain ⟨L, HL⟩ : ∃ L, Hid (newL x = L) := ⟨_, rfl⟩
  obtain ⟨s, HS⟩ : ∃ s, Hid (sizeZ x = s) := ⟨_, rfl⟩
  obtain ⟨ck, HCK⟩ : ∃ ck, Hid (checkB c xs m t = ck) := ⟨_, rfl⟩
  go_wp2_with fail
  refine (at_all x y z _).mono ?_
  rw [HK.out, Hb.out]
  rintro e w1 ⟨rfl, hb⟩
  replace X := X.below hb (Nat.le_refl _)
  replace B := B.trans (hb.mono B.size)
  clear hb x1
  go_wp2_with fail
  refine (rat_all x y z _).mono ?_
  rw [HK.out, Hb.out]
  rintro e w2 ⟨rfl, rfl⟩
  go_wp2_with fail
  refine (new_all x _).mono ?_
  rw [HC.out, HE.out, HL.out]
  rintro e w3 ⟨⟨a1, l1, c1, rfl, F1⟩, hb⟩
  replace X := X.below hb (Nat.le_refl _)
  replace B := B.trans (hb.mono B.size)
  clear hb
  have hb3 : Below w3.heap.size w3 (w3.alloc (fcells C (.slice a1 l1 c1) 0 0)) := (Below.refl _ w3).alloc (Nat.le_refl _) _
  have G1 := FBox.new w3 C (.slice a1 l1 c1) 0 0
  replace X := X.below hb3 (Nat.le_refl _)
  replace B := B.trans (hb3.mono B.size)
  replace F1 := F1.below hb3 (Nat.le_refl _)
  clear hb3
  go_wp2_with fail
  refine (rnew_all x _).mono ?_
  rw [HC.out, HE.out, HL.out]
  rintro e w4 ⟨⟨a2, l2, c2, rfl, F2⟩, hb⟩
  replace X := X.below hb (Nat.le_refl _)
  replace B := B.trans (hb.mono B.size)
  replace G1 := G1.below hb (Nat.le_refl _)
  replace F1 := F1.below hb (Nat.le_refl _)
  clear hb
  have hb4 : Below w4.heap.size w4 (w4.alloc (fcells C (.slice a2 l2 c2) 0 0)) := (Below.refl _ w4).alloc (Nat.le_refl _) _
  have G2 := FBox.new w4 C (.slice a2 l2 c2) 0 0
  replace X := X.below hb4 (Nat.le_refl _)
  replace B := B.trans (hb4.mono B.size)
  replace G1 := G1.below hb4 (Nat.le_refl _)
  replace F1 := F1.below hb4 (Nat.le_refl _)
  replace F2 := F2.below hb4 (Nat.le_refl _)
  clear hb4
  go_wp2_with fail
  generalize w3.heap.size = Q1 at *
  generalize w4.heap.size = Q2 at *
  generalize w4.alloc (fcells C (.slice a2 l2 c2) 0 0) = V at *
  have g0 := G1.c0
  have g1 := G1.c1
  have g2 := G1.c2
  have g3 := G1.c3
  have e0 := G2.c0
  have e1 := G2.c1
  have e2 := G2.c2
  have e3 := G2.c3
  have bD : Below V.heap.size V V.drew := (Below.refl _ _).drew
  have kZ : ∀ w', Calls Tryd.prog 14 #[.int .i64 x] w' fun e w'' => e = .returned (.int .i64 s) ∧ w'' = w' := by intro w'; have h := size_c x w'; rwa [HS.out] at h
  have kY : ∀ w', Calls Tryd.prog 15 #[.int .i64 x] w' fun e w'' => e = .returned (.int .i64 s) ∧ w'' = w' := by intro w'; have h := rsize_c x w'; rwa [HS.out] at h
  have kF : Calls Tryd.prog 16 #[fv C (.slice a1 l1 c1) 0 0, fv C (.slice a2 l2 c2) 0 0] V.drew fun e w' => e = .returned (.bool true) ∧ Below V.heap.size V w' := by
    have h := fsame_c C 0 0 _ _ L L V.drew (F1.below bD (Nat.le_refl _)) (F2.below bD (Nat.le_refl _))
    rw [allSame_refl] at h
    exact h.mono fun e w' ⟨h1, h2⟩ => ⟨h1, bD.trans h2⟩
  have kC : ∀ w', Below V.heap.size V w' → Calls Tryd.prog 17 #[fv c (.slice a xs.length cap) m t] w' fun e w'' => e = .returned (.bool ck) ∧ Below V.heap.size V w'' := by
    intro w' hw
    have B' := B.trans (hw.mono B.size)
    have h := check_c c m t _ xs w' (hT.below B') (hF.below B' (Nat.le_refl _))
    rw [HCK.out] at h
    exact h.mono fun e w'' ⟨h1, h2⟩ => ⟨h1, hw.trans (h2.mono hw.size)⟩
  have kR : ∀ w', Below V.heap.size V w' → Calls Tryd.prog 18 #[fv c (.slice a xs.length cap) m t] w' fun e w'' => e = .returned (.bool ck) ∧ Below V.heap.size V w'' := by
    intro w' hw
    have B' := B.trans (hw.mono B.size)
    have h := rcheck_c c m t _ xs w' (hF.below B' (Nat.le_refl _))
    rw [HCK.out] at h
    exact h.mono fun e w'' ⟨h1, h2⟩ => ⟨h1, hw.trans (h2.mono hw.size)⟩
  have mk : ∀ w', Below V.heap.size V w' → (w'.cell? ⟨w.heap.size, 0, none⟩ = some (.int .i64 c) ∧ w'.cell? ⟨w.heap.size, 1, none⟩ = some (.slice a xs.length cap) ∧ w'.cell? ⟨w.heap.size, 2, none⟩ = some (.int .i64 m) ∧ w'.cell? ⟨w.heap.size, 3, none⟩ = some (.int .i64 t) ∧ w'.cell? ⟨Q1, 0, none⟩ = some (.int .i64 C) ∧ w'.cell? ⟨Q1, 1, none⟩ = some (.slice a1 l1 c1) ∧ w'.cell? ⟨Q1, 2, none⟩ = some (.int .i64 0) ∧ w'.cell? ⟨Q1, 3, none⟩ = some (.int .i64 0) ∧ w'.cell? ⟨Q2, 0, none⟩ = some (.int .i64 C) ∧ w'.cell? ⟨Q2, 1, none⟩ = some (.slice a2 l2 c2) ∧ w'.cell? ⟨Q2, 2, none⟩ = some (.int .i64 0) ∧ w'.cell? ⟨Q2, 3, none⟩ = some (.int .i64 0)) := fun w' hw => by
    have p := X.below hw (Nat.le_refl _)
    have q := G1.below hw (Nat.le_refl _)
    have r := G2.below hw (Nat.le_refl _)
    exact ⟨p.c0, p.c1, p.c2, p.c3, q.c0, q.c1, q.c2, q.c3, r.c0, r.c1, r.c2, r.c3⟩
  clear F1 F2 g0 g1 g2 g3 e0 e1 e2 e3
  go_region_held3 (fun w' => w'.cell? ⟨w.heap.size, 0, none⟩ = some (.int .i64 c) ∧ w'.cell? ⟨w.heap.size, 1, none⟩ = some (.slice a xs.length cap) ∧ w'.cell? ⟨w.heap.size, 2, none⟩ = some (.int .i64 m) ∧ w'.cell? ⟨w.heap.size, 3, none⟩ = some (.int .i64 t) ∧ w'.cell? ⟨Q1, 0, none⟩ = some (.int .i64 C) ∧ w'.cell? ⟨Q1, 1, none⟩ = some (.slice a1 l1 c1) ∧ w'.cell? ⟨Q1, 2, none⟩ = some (.int .i64 0) ∧ w'.cell? ⟨Q1, 3, none⟩ = some (.int .i64 0) ∧ w'.cell? ⟨Q2, 0, none⟩ = some (.int .i64 C) ∧ w'.cell? ⟨Q2, 1, none⟩ = some (.slice a2 l2 c2) ∧ w'.cell? ⟨Q2, 2, none⟩ = some (.int .i64 0) ∧ w'.cell? ⟨Q2, 3, none⟩ = some (.int .i64 0)) (exact mk _ (by assumption)) ((first | (go_at_call 14; refine (kZ _).mono ?_; rintro e w' ⟨rfl, rfl⟩) | (go_at_call 15; refine (kY _).mono ?_; rintro e w' ⟨rfl, rfl⟩) | (go_at_call 16; with_reducible refine kF.mono ?_; rintro e w5 ⟨rfl, hb5⟩) | (go_at_call 17; with_reducible refine (kC w5 hb5).mono ?_; rintro e w6 ⟨rfl, hb6⟩) | (go_at_call 18; with_reducible refine (kR w6 hb6).mono ?_; rintro e w7 ⟨rfl, hb7⟩) | (go_at_call 9; refine (hlive w7 (hT.below (B.trans (hb7.mono B.size)))).mono ?_; rintro e w8 ⟨rfl, hb8⟩; have hb9 : Below V.heap.size V w8 := hb7.trans (hb8.mono hb7.size))))
  all_goals
    go_wp2
    go_ret
    exact ⟨by first | rfl | exact ret_bool (by simp), B.trans ((hb7.trans (hb8.mono hb7.size)).mono B.size)⟩
end Go.Proofs.YtaglfndhgdolfaaDoor
