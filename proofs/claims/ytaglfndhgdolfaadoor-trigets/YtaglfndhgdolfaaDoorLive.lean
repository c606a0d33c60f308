/- levellinglaw07.live is true. -/
import Derived.Deep.RegionWith
import Derived.Deep.CutRange
import Derived.Test.YtaglfndhgdolfaaDoorLive0
namespace Go.Proofs.YtaglfndhgdolfaaDoor
open Go.RowKit Go.Shelf

theorem RowF.below {W W' : World} {g n : Nat} {xs : List Nat} (h : RowF W g xs) (hb : Below n W W') (hn : W.heap.size ≤ n) : RowF W' g xs := by
  have h1 : W.heap[g]? = _ := h
  exact (hb.block g (by have := (Array.getElem?_eq_some_iff.1 h1).1; omega)).trans h1

/-- What is known on the way: of the table, of f and of its box. -/
structure St (w W : World) (g B : Nat) : Prop where
  t : Tab W
  b : Below w.heap.size w W
  f : Fls W (.slice (some ⟨g, 0, none⟩) 6 6) X0
  x : FBox W B 2 (.slice (some ⟨g, 0, none⟩) 6 6) 0 0
theorem St.below {w W W' : World} {g B : Nat} (h : St w W g B) (hb : Below W.heap.size W W') : St w W' g B :=
  ⟨h.t.below hb, h.b.trans (hb.mono h.b.size), h.f.below hb (Nat.le_refl _), h.x.below hb (Nat.le_refl _)⟩
theorem St.alloc {w W : World} {g B : Nat} (h : St w W g B) (o : Obj) : St w (W.alloc o) g B := h.below ((Below.refl _ W).alloc (Nat.le_refl _) o)
/-- .. and of g and its box. -/
structure Su (W : World) (g B cap : Nat) : Prop where
  f : Fls W (.slice (some ⟨g, 0, none⟩) 6 cap) X1
  x : FBox W B 2 (.slice (some ⟨g, 0, none⟩) 6 cap) 0 0
theorem Su.below {W W' : World} {g B cap : Nat} (h : Su W g B cap) (hb : Below W.heap.size W W') : Su W' g B cap := ⟨h.f.below hb (Nat.le_refl _), h.x.below hb (Nat.le_refl _)⟩
theorem Su.alloc {W : World} {g B cap : Nat} (h : Su W g B cap) (o : Obj) : Su (W.alloc o) g B cap := h.below ((Below.refl _ W).alloc (Nat.le_refl _) o)

set_option maxRecDepth 100000 in
set_option maxHeartbeats 8000000 in
theorem live_c (w : World) (hT : Tab w) : Calls Tryd.prog 9 #[] w fun e w' => e = .returned (.bool true) ∧ Below w.heap.size w w' := by
  go_enter Tryd.func9, Tryd.ntmps9
  -- New(2)
  go_wp2_with fail
  refine (new_two _).mono ?_
  rintro e w1 ⟨⟨g, rfl, hg, hR⟩, hb⟩
  have hb' : Below w.heap.size w (w1.alloc (fcells 2 (.slice (some ⟨g, 0, none⟩) 6 6) 0 0)) := hb.alloc hb.size _
  have S : St w (w1.alloc (fcells 2 (.slice (some ⟨g, 0, none⟩) 6 6) 0 0)) g w1.heap.size := ⟨hT.below hb', hb', (hR.fls okX0 (by decide)).below ((Below.refl _ w1).alloc (Nat.le_refl _) _) (Nat.le_refl _), FBox.new _ _ _ _ _⟩
  clear hb hb' hR hg hT
  -- New(7)
  go_wp2_with fail
  refine (new_seven _).mono ?_
  rintro e w2 ⟨rfl, hb⟩
  replace S := (S.below hb).alloc (fcells 0 (.slice none 0 0) 0 0)
  clear hb
  generalize w1.heap.size = B at *
  -- At
  go_wp2_with fail
  refine (at_live _).mono ?_
  rintro e w3 ⟨rfl, hb⟩
  replace S := S.below hb
  clear hb
  go_wp2_with fail
  refine (at_dead _).mono ?_
  rintro e w4 ⟨rfl, hb⟩
  replace S := S.below hb
  have d0 := S.x.c0
  have d1 := S.x.c1
  have d2 := S.x.c2
  have d3 := S.x.c3
  clear hb
  -- Set
  go_wp2_with fail
  have S5 := S.alloc (.cells #[fl 4621256167635550208, fl 4617315517961601024, fl 13841813454723219456] 40)
  refine (set_good g 6 _ _ S5.t S5.f (built3 w4 _ _ _ (by decide) (by decide) (by decide))).mono ?_
  rintro e w5 ⟨⟨h, cap, rfl, hh, hX⟩, hb⟩
  replace S := (S5.below hb).alloc (fcells 2 (.slice (some ⟨h, 0, none⟩) 6 cap) 0 0)
  have U : Su (w5.alloc (fcells 2 (.slice (some ⟨h, 0, none⟩) 6 cap) 0 0)) h w5.heap.size cap := ⟨(hX.fls okX1 (by decide)).below ((Below.refl _ w5).alloc (Nat.le_refl _) _) (Nat.le_refl _), FBox.new _ _ _ _ _⟩
  have d0 := S.x.c0
  have d1 := S.x.c1
  have d2 := S.x.c2
  have d3 := S.x.c3
  clear hb S5 hX hh
  go_wp2_with fail
  have L := built3 (w5.alloc (fcells 2 (.slice (some ⟨h, 0, none⟩) 6 cap) 0 0)) 0 13840687554816376832 4618441417868443648 (by decide) (by decide) (by decide)
  rw [World.size_alloc] at L
  have S6 := S.alloc (.cells #[fl 0, fl 13840687554816376832, fl 4618441417868443648] 40)
  have U6 := U.alloc (.cells #[fl 0, fl 13840687554816376832, fl 4618441417868443648] 40)
  clear d0 d1 d2 d3 S U
  refine (set_bad g 6 _ _ _ S6.t S6.f L rfl low_no).mono ?_
  rintro e w6 ⟨rfl, hb⟩
  have S := (S6.below hb).alloc (fcells 0 (.slice none 0 0) 0 0)
  have U := (U6.below hb).alloc (fcells 0 (.slice none 0 0) 0 0)
  clear hb S6 U6 L
  generalize w5.heap.size = C at *
  go_wp2_with fail
  generalize w6.heap.size = D at *
  generalize w6.alloc (fcells 0 (.slice none 0 0) 0 0) = W at *
  clear d0 d1 d2 d3
  go_cut [14] from 44 to 50 (fun s14 wx => s14 = .bool false ∧ St w wx g B ∧ Su wx h C cap)
  case first =>
    have d0 := S.x.c0
    have d1 := S.x.c1
    have d2 := S.x.c2
    have d3 := S.x.c3
    have hlt := S.x.lt
    have hbA : Below W.heap.size W (W.alloc (.cells #[fl 0, fl 9223372036854775808, fl 4618441417868443648] 40)).drew := ((Below.refl _ W).alloc (Nat.le_refl _) _).drew
    have hbB : Below W.heap.size W ((W.alloc (fcells 0 (.slice none 0 0) 0 0)).alloc (.cells #[fl 0, fl 9223372036854775808, fl 4618441417868443648] 40)).drew := (((Below.refl _ W).alloc (Nat.le_refl _) _).alloc (by simp) _).drew
    have hbC : Below W.heap.size W ((W.alloc (.cells #[fl 0, fl 9223372036854775808, fl 4618441417868443648] 40)).alloc (fcells 0 (.slice none 0 0) 0 0)).drew := (((Below.refl _ W).alloc (Nat.le_refl _) _).alloc (by simp) _).drew
    have LA : Fls (W.alloc (.cells #[fl 0, fl 9223372036854775808, fl 4618441417868443648] 40)).drew (.slice (some ⟨W.heap.size, 0, none⟩) 3 3) [0, 9223372036854775808, 4618441417868443648] := (built3 W _ _ _ (by decide) (by decide) (by decide)).below ((Below.refl _ _).drew) (Nat.le_refl _)
    have LB : Fls ((W.alloc (fcells 0 (.slice none 0 0) 0 0)).alloc (.cells #[fl 0, fl 9223372036854775808, fl 4618441417868443648] 40)).drew (.slice (some ⟨W.heap.size + 1, 0, none⟩) 3 3) [0, 9223372036854775808, 4618441417868443648] := by
      have h := built3 (W.alloc (fcells 0 (.slice none 0 0) 0 0)) 0 9223372036854775808 4618441417868443648 (by decide) (by decide) (by decide)
      rw [World.size_alloc] at h
      exact h.below ((Below.refl _ _).drew) (Nat.le_refl _)
    have LC : Fls ((W.alloc (.cells #[fl 0, fl 9223372036854775808, fl 4618441417868443648] 40)).alloc (fcells 0 (.slice none 0 0) 0 0)).drew (.slice (some ⟨W.heap.size, 0, none⟩) 3 3) [0, 9223372036854775808, 4618441417868443648] := (built3 W _ _ _ (by decide) (by decide) (by decide)).below (((Below.refl _ _).alloc (Nat.le_refl _) _).drew) (Nat.le_refl _)
    have xB : FBox ((W.alloc (fcells 0 (.slice none 0 0) 0 0)).alloc (.cells #[fl 0, fl 9223372036854775808, fl 4618441417868443648] 40)).drew W.heap.size 0 (.slice none 0 0) 0 0 := (FBox.new W _ _ _ _).below (((Below.refl _ _).alloc (Nat.le_refl _) _).drew) (Nat.le_refl _)
    have xC : FBox ((W.alloc (.cells #[fl 0, fl 9223372036854775808, fl 4618441417868443648] 40)).alloc (fcells 0 (.slice none 0 0) 0 0)).drew (W.heap.size + 1) 0 (.slice none 0 0) 0 0 := by
      have h := FBox.new (W.alloc (.cells #[fl 0, fl 9223372036854775808, fl 4618441417868443648] 40)) 0 (.slice none 0 0) 0 0
      rw [World.size_alloc] at h
      exact h.below ((Below.refl _ _).drew) (Nat.le_refl _)
    have kA := set_bad g 6 _ _ _ (S.below hbA).t (S.below hbA).f LA rfl sign_no
    have kB := set_bad g 6 _ _ _ (S.below hbB).t (S.below hbB).f LB rfl sign_no
    have kC := set_bad g 6 _ _ _ (S.below hbC).t (S.below hbC).f LC rfl sign_no
    clear LA LB LC
    go_region_with (first | (go_at_call 27; refine (copysign_c _).mono ?_; rintro e w' ⟨rfl, rfl⟩) | (go_at_call 19; with_reducible refine kA.mono ?_; rintro e w7 ⟨rfl, hb7⟩; have hbw := hbA.trans (hb7.mono hbA.size); clear hb7) | (go_at_call 19; with_reducible refine kB.mono ?_; rintro e w7 ⟨rfl, hb7⟩; have x7 := xB.below hb7 (Nat.le_refl _); have r0 := x7.c0; have r1 := x7.c1; have r2 := x7.c2; have r3 := x7.c3; have z0 := x7.fz 0; have z1 := x7.fz 1; have z2 := x7.fz 2; have z3 := x7.fz 3; have hbw := hbB.trans (hb7.mono hbB.size); clear hb7 x7) | (go_at_call 19; with_reducible refine kC.mono ?_; rintro e w7 ⟨rfl, hb7⟩; have x7 := xC.below hb7 (Nat.le_refl _); have r0 := x7.c0; have r1 := x7.c1; have r2 := x7.c2; have r3 := x7.c3; have z0 := x7.fz 0; have z1 := x7.fz 1; have z2 := x7.fz 2; have z3 := x7.fz 3; have hbw := hbC.trans (hb7.mono hbC.size); clear hb7 x7))
    all_goals
      go_wp2_with fail
      go_meet
      first
        | exact ⟨rfl, S.below (hbw.alloc hbw.size _), U.below (hbw.alloc hbw.size _)⟩
        | exact ⟨rfl, S.below (putF_below hbw (B := W.heap.size) (Nat.le_refl _) 0 (.slice none 0 0) 0 0), U.below (putF_below hbw (B := W.heap.size) (Nat.le_refl _) 0 (.slice none 0 0) 0 0)⟩
        | exact ⟨rfl, S.below (putF_below hbw (B := W.heap.size + 1) (Nat.le_succ _) 0 (.slice none 0 0) 0 0), U.below (putF_below hbw (B := W.heap.size + 1) (Nat.le_succ _) 0 (.slice none 0 0) 0 0)⟩
  case rest =>
    obtain ⟨rfl, S2, U2⟩ := hcut
    clear S U
    have d0 := U2.x.c0
    have d1 := U2.x.c1
    have d2 := U2.x.c2
    have d3 := U2.x.c3
    have q1 := ordM6
    have q2 := ord5
    have q3 := ord0
    go_wp2_with fail
    -- Line(g, 1)
    refine (line_live h cap _ S2.t U2.f).mono ?_
    rintro e w8 ⟨⟨l, rfl, hR⟩, hb⟩
    replace S2 := S2.below hb
    replace U2 := U2.below hb
    clear hb d0 d1 d2 d3
    have f0 := S2.x.c0
    have f1 := S2.x.c1
    have f2 := S2.x.c2
    have f3 := S2.x.c3
    go_wp2_with (first | (go_at_call_of 14 (Value.int IntKind.i64 2); refine (size_two _).mono ?_; rintro e w' ⟨rfl, rfl⟩) | (go_at_call_of 14 (Value.int IntKind.i64 0); refine (size_zero _).mono ?_; rintro e w' ⟨rfl, rfl⟩))
    -- Check(f)
    refine (check_live g 6 _ S2.t S2.f).mono ?_
    rintro e w9 ⟨rfl, hb⟩
    replace S2 := S2.below hb
    replace U2 := U2.below hb
    replace hR := hR.below hb (Nat.le_refl _)
    clear hb f0 f1 f2 f3
    have d0 := U2.x.c0
    have d1 := U2.x.c1
    have d2 := U2.x.c2
    have d3 := U2.x.c3
    go_wp2_with fail
    refine (get_live h cap _ S2.t U2.f).mono ?_
    rintro e w10 ⟨rfl, hb⟩
    replace S2 := S2.below hb
    replace U2 := U2.below hb
    replace hR := hR.below hb (Nat.le_refl _)
    clear hb d0 d1 d2 d3
    have d0 := U2.x.c0
    have d1 := U2.x.c1
    have d2 := U2.x.c2
    have d3 := U2.x.c3
    go_wp2_with fail
    refine (get_dead h cap _ S2.t U2.f).mono ?_
    rintro e w11 ⟨rfl, hb⟩
    replace S2 := S2.below hb
    replace hR := hR.below hb (Nat.le_refl _)
    clear hb d0 d1 d2 d3 U2
    have l0 : w11.cell? ⟨l, 0, none⟩ = some (fl 0) := by simp [World.cell?, show w11.heap[l]? = _ from hR]
    have l1 : w11.cell? ⟨l, 1, none⟩ = some (fl 4617315517961601024) := by simp [World.cell?, show w11.heap[l]? = _ from hR]
    have l2 : w11.cell? ⟨l, 2, none⟩ = some (fl 13841813454723219456) := by simp [World.cell?, show w11.heap[l]? = _ from hR]
    go_wp2_with fail
    refine (check_dead _ S2.t).mono ?_
    rintro e w12 ⟨rfl, hb⟩
    replace S2 := S2.below hb
    clear hb
    go_wp2
    go_ret
    exact ⟨rfl, S2.b⟩
end Go.Proofs.YtaglfndhgdolfaaDoor
