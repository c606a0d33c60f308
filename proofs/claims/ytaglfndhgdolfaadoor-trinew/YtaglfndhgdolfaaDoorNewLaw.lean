/- levellinglaw07.TriNew: the walk. -/
import Derived.Test.YtaglfndhgdolfaaDoorPlaces
namespace Go.Proofs.YtaglfndhgdolfaaDoor
open Go.RowKit Go.Shelf

theorem check_new : ∀ n : Nat, n ≤ 6 → 1 ≤ n → checkB (n : Int) (List.replicate ((n + 1) * (n + 2) / 2) 0) 0 0 = true := by
  intro n h6 h1
  have : n = 1 ∨ n = 2 ∨ n = 3 ∨ n = 4 ∨ n = 5 ∨ n = 6 := by omega
  rcases this with rfl | rfl | rfl | rfl | rfl | rfl <;> decide +kernel
theorem okF_rep (n : Nat) : okF (List.replicate n 0) := by
  intro x hx
  have := List.eq_of_mem_replicate hx; omega

set_option maxRecDepth 100000 in
set_option maxHeartbeats 4000000 in
theorem new_walk (c : Int) (w : World) (hT : Tab w) :
    Calls Tryd.prog 8 #[.int .i64 c] w fun e w' => e = .returned (.bool true) ∧ Below w.heap.size w w' := by
  by_cases hc : 1 ≤ c ∧ c ≤ 6
  · obtain ⟨n, rfl⟩ : ∃ n : Nat, c = (n : Int) := ⟨c.toNat, by omega⟩
    have hn1 : 1 ≤ n := by omega
    have hn6 : n ≤ 6 := by omega
    obtain ⟨s, HS⟩ : ∃ s, Hid ((n + 1) * (n + 2) / 2 = s) := ⟨_, rfl⟩
    have HZ : Hid (sizeZ (n : Int) = (s : Int)) := by show _ = _; rw [sizeZ_nat n hn1 hn6, HS.out]
    have hs3 := sizeZ_pos hc
    rw [HZ.out] at hs3
    have hs1 : 3 ≤ s := by omega
    have hs2 : s ≤ 28 := by omega
    have HCK : Hid (checkB n (List.replicate s 0) 0 0 = true) := by show _ = _; rw [← HS.out]; exact check_new n hn6 hn1
    clear hc hs3
    go_enter Tryd.func8, Tryd.ntmps8
    go_wp2_with fail
    refine (new_yes n _ hn1 hn6).mono ?_
    rw [HS.out]
    rintro e w1 ⟨⟨g, rfl, hg, hR⟩, hb⟩
    have hF := hR.fls (okF_rep s) (by simp; omega)
    rw [List.length_replicate] at hF
    have B1 : Below w.heap.size w (w1.alloc (fcells n (.slice (some ⟨g, 0, none⟩) s s) 0 0)) := hb.alloc hb.size _
    have X1 := FBox.new w1 n (.slice (some ⟨g, 0, none⟩) s s) 0 0
    have F1 := hF.below ((Below.refl _ w1).alloc (Nat.le_refl _) (fcells n (.slice (some ⟨g, 0, none⟩) s s) 0 0)) (Nat.le_refl _)
    clear hb hF hR
    go_wp2_with fail
    generalize w1.heap.size = P at *
    generalize w1.alloc (fcells n (.slice (some ⟨g, 0, none⟩) s s) 0 0) = W at *
    have x0 := X1.c0
    have x1 := X1.c1
    have x2 := X1.c2
    have x3 := X1.c3
    go_loop [5] (fun i => ∃ k : Nat, k ≤ s ∧ i = .int .i64 (k : Int)) (fun i => s - (intOf i).toNat)
    case atStart => exact ⟨0, Nat.zero_le _, by simp⟩
    case round =>
      obtain ⟨k, hk, rfl⟩ := hrel
      by_cases hlt : k < s
      · have hck : W.cell? ⟨g, k, none⟩ = some (fl 0) := by
          obtain ⟨b, off, cap', e, hb, hc', hcs⟩ := F1.cell (by simp; omega)
          simp only [Value.slice.injEq, Option.some.injEq, Addr.mk.injEq] at e
          obtain ⟨⟨rfl, rfl, _⟩, _, _⟩ := e
          have := hcs k (by simpa using hlt)
          simpa [hlt] using this
        have hsm : sameB 0 0 = true := sameB_refl 0
        go_wp2_with fail
        refine (same_c 0 0 (by decide) (by decide) _).mono ?_
        rw [hsm]
        rintro e w2 ⟨rfl, rfl⟩
        go_wp2
        go_round
        case rel => exact ⟨k + 1, by omega, by go_num⟩
        case measure => simp [intOf]; omega
      · obtain rfl : k = s := by omega
        go_wp2_with fail
        have hbD : Below W.heap.size W W.drew := (Below.refl _ _).drew
        have kC : Calls Tryd.prog 17 #[fv n (.slice (some ⟨g, 0, none⟩) k k) 0 0] W.drew fun e w' => e = .returned (.bool true) ∧ Below W.heap.size W w' := by
          have h := check_c n 0 0 _ _ W.drew ((hT.below B1).below hbD) (F1.below hbD (Nat.le_refl _))
          rw [HCK.out] at h
          exact h.mono fun e w' ⟨h1, h2⟩ => ⟨h1, hbD.trans h2⟩
        have kS : ∀ w', Calls Tryd.prog 14 #[.int .i64 (n : Int)] w' fun e w'' => e = .returned (.int .i64 (k : Int)) ∧ w'' = w' := by
          intro w'
          have h := size_c (n : Int) w'
          rw [HZ.out] at h
          exact h
        have hk0 : (0 : Int) < (k : Int) := by omega
        clear hk hlt
        go_region_with (first | (go_at_call 17; with_reducible refine kC.mono ?_; rintro e w2 ⟨rfl, hb2⟩; have X2 := X1.below hb2 (Nat.le_refl _); have y0 := X2.c0; have y1 := X2.c1; have y2 := X2.c2; have y3 := X2.c3; have B2 := B1.trans (hb2.mono B1.size); have T2 := hT.below B2) | (go_at_call 14; refine (kS _).mono ?_; rintro e w3 ⟨rfl, rfl⟩) | (go_at_call 9; refine (live_c _ T2).mono ?_; rintro e w4 ⟨rfl, hb4⟩; have B4 := B2.trans (hb4.mono B2.size)))
        all_goals
          go_wp2
          go_ret
          exact ⟨rfl, B4⟩
  · have hs : (sizeZ c == 0) = true := by rw [sizeZ_no hc]; rfl
    have hT' := hT
    go_enter Tryd.func8, Tryd.ntmps8
    go_wp2_with fail
    refine (new_no c _ hc).mono ?_
    rintro e w1 ⟨rfl, hb⟩
    have B1 : Below w.heap.size w (w1.alloc (fcells 0 (.slice none 0 0) 0 0)) := hb.alloc hb.size _
    clear hb
    go_wp2_with fail
    refine (size_c _ _).mono ?_
    rintro e w4 ⟨rfl, rfl⟩
    go_wp2_with fail
    refine (live_c _ (hT.below B1)).mono ?_
    rintro e w5 ⟨rfl, hb⟩
    go_wp2
    go_ret
    exact ⟨rfl, B1.trans (hb.mono B1.size)⟩
end Go.Proofs.YtaglfndhgdolfaaDoor
