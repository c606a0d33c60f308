/- levellingref07.Check: it is what tri.Check is. -/
import Derived.BigQuiet
import Derived.Test.YtdccjlaneobldaaDoorRefMath
import Derived.Test.YtdccjlaneobldaaDoorRefPow
import Derived.Test.YtdccjlaneobldaaDoorRefAt
import Derived.Test.YtdccjlaneobldaaDoorFBox
namespace Go.Proofs.YtdccjlaneobldaaDoor
open Go.RowKit Go.Shelf

theorem uns_take_false {n row : Nat} {xs : List Nat} (hr : row ≤ n) (h : sg (xs[place n row]?.getD 0) = true) : unsB n xs = false := by
  unfold unsB
  rw [List.all_eq_false]
  exact ⟨row, by simp; omega, by rw [h]; simp⟩

set_option maxRecDepth 100000 in
set_option maxHeartbeats 4000000 in
theorem rcheck_c (c r t : Int) (sv : Value) (xs : List Nat) (w : World) (hF : Fls w sv xs) :
    Calls Tryd.prog 25 #[fv c sv r t] w fun e w' => e = .returned (.bool (checkB c xs r t)) ∧ Below w.heap.size w w' := by
  obtain ⟨a, cap, rfl, hcap⟩ := hF.shape
  have hl := hF.2.1
  have hB : Below w.heap.size w (w.alloc (fcells c (.slice a xs.length cap) r t)) := (Below.refl _ w).alloc (Nat.le_refl _) _
  have X := FBox.new w c (.slice a xs.length cap) r t
  by_cases hc : 1 ≤ c ∧ c ≤ 6
  · have hs := (sizeZ_pos hc).1
    have hs' : (sizeZ c == 0) = false := by simp; omega
    clear hs
    by_cases hle : (xs.length : Int) = sizeZ c
    · have hle' : ((xs.length : Int) != sizeZ c) = false := by simp [hle]
      by_cases hr : 0 ≤ r ∧ r ≤ 200 ∧ 0 ≤ t ∧ t ≤ 4096
      · obtain ⟨n, rfl⟩ : ∃ n : Nat, c = (n : Int) := ⟨c.toNat, by omega⟩
        have hn1 : 1 ≤ n := by omega
        have hn6 : n ≤ 6 := by omega
        have HLEN : Hid (xs.length = (n + 1) * (n + 2) / 2) := by
          show _ = _
          rw [sizeZ_nat n hn1 hn6] at hle
          exact_mod_cast hle
        have HCK : Hid (checkB n xs r t = (xs.all leH && unsB n xs)) := by
          show _ = _
          unfold checkB shapeB
          rw [decide_eq_true hr, decide_eq_true (show (1 ≤ (n : Int) ∧ (n : Int) ≤ 6) ∧ (xs.length : Int) = sizeZ n from ⟨hc, hle⟩), Int.toNat_natCast]
          simp
        obtain ⟨r0, r1, t0, t1⟩ := hr
        have d0 : ¬ r < 0 := by omega
        have d1 : ¬ 200 < r := by omega
        have d2 : ¬ t < 0 := by omega
        have d3 : ¬ 4096 < t := by omega
        clear hle hc
        go_enter Tryd.func25, Tryd.ntmps25
        go_wp2_with fail
        go_quiet ((go_at_call 40; refine Calls.quiet_of_same (rsize_c _ _)))
        go_wp2_with fail
        have B : Below w.heap.size w ((w.alloc (fcells n (.slice a xs.length cap) r t)).drewN nq) := below_drewN hB _
        have X1 : FBox ((w.alloc (fcells n (.slice a xs.length cap) r t)).drewN nq) w.heap.size n (.slice a xs.length cap) r t := X.below (below_drewN (Below.refl _ _) _) (Nat.le_refl _)
        clear X hB r0 r1 t0 t1 d0 d1 d2 d3 hle' hs'
        generalize (w.alloc (fcells n (.slice a xs.length cap) r t)).drewN nq = W at *
        have F := hF.below B (Nat.le_refl _)
        have x0 := X1.c0
        have x1 := X1.c1
        go_loop [3] (fun i => ∃ k : Nat, k ≤ xs.length ∧ i = .int .i64 (k : Int) ∧ Hid ((xs.take k).all leH = true)) (fun i => xs.length - (intOf i).toNat)
        case atStart => exact ⟨0, Nat.zero_le _, by simp, by show _ = _; simp⟩
        case round =>
          obtain ⟨k, hk, rfl, HA⟩ := hrel
          by_cases hlt : k < xs.length
          · obtain ⟨b, off, cap', e, hb, hc', hcs⟩ := F.cell (by omega)
            cases e
            have hck := hcs k hlt
            have hok := okF_getD hF.1 k
            obtain ⟨x, hx⟩ : ∃ x, xs[k]?.getD 0 = x := ⟨_, rfl⟩
            rw [hx] at hck hok
            have HX : Hid (xs[k]?.getD 0 = x) := hx
            clear hx hcs
            obtain ⟨K, HKX⟩ : ∃ K, Hid (kindN x = K) := ⟨_, rfl⟩
            obtain ⟨G, HG⟩ : ∃ G, Hid (gtH x = G) := ⟨_, rfl⟩
            have HLE : Hid (leH x = (decide (K ≤ 1) && !G)) := by show _ = _; rw [leH_ref, HKX.out, HG.out]
            by_cases hK : K ≤ 1
            · have hK' : ¬ (1 : Int) < (K : Int) := by omega
              cases G with
              | false =>
                have hq : (FloatKind.f64.format.order (x % 9223372036854775808) 6498694262295625728 == some .gt) = false := HG.out
                go_wp2_with fail
                refine (split_c x hok _).mono ?_
                rw [HKX.out]
                rintro e w1 ⟨⟨m1, k1, rfl⟩, rfl⟩
                go_wp2_with (first | (go_at_call 19; refine (abs_c x hok _).mono ?_; rintro e w' ⟨rfl, rfl⟩) | (go_at_call 30; refine (rpow_c _).mono ?_; rintro e w' ⟨rfl, rfl⟩))
                go_round
                case rel => exact ⟨k + 1, by omega, by go_num, all_take_succ hlt HA.out (by rw [HX.out, HLE.out, decide_eq_true hK]; rfl)⟩
                case measure => simp [intOf]; omega
              | true =>
                have hq : (FloatKind.f64.format.order (x % 9223372036854775808) 6498694262295625728 == some .gt) = true := HG.out
                have HE : Hid (checkB n xs r t = false) := by show _ = _; rw [HCK.out, all_false_at (p := leH) hlt (by rw [HX.out, HLE.out, decide_eq_true hK]; rfl)]; rfl
                go_wp2_with fail
                refine (split_c x hok _).mono ?_
                rw [HKX.out]
                rintro e w1 ⟨⟨m1, k1, rfl⟩, rfl⟩
                go_wp2_with (first | (go_at_call 19; refine (abs_c x hok _).mono ?_; rintro e w' ⟨rfl, rfl⟩) | (go_at_call 30; refine (rpow_c _).mono ?_; rintro e w' ⟨rfl, rfl⟩))
                go_ret
                exact ⟨ret_bool HE.out.symm, B⟩
            · have hK' : (1 : Int) < (K : Int) := by omega
              have HE : Hid (checkB n xs r t = false) := by show _ = _; rw [HCK.out, all_false_at (p := leH) hlt (by rw [HX.out, HLE.out, decide_eq_false hK]; rfl)]; rfl
              go_wp2_with fail
              refine (split_c x hok _).mono ?_
              rw [HKX.out]
              rintro e w1 ⟨⟨m1, k1, rfl⟩, rfl⟩
              go_wp2_with fail
              go_ret
              exact ⟨ret_bool HE.out.symm, B⟩
          · obtain rfl : k = xs.length := by omega
            have HALL : Hid (xs.all leH = true) := by have := HA.out; rwa [List.take_length] at this
            have HCU : Hid (checkB n xs r t = unsB n xs) := by show _ = _; rw [HCK.out, HALL.out]; rfl
            go_wp2_with fail
            go_loop [8] (fun i => ∃ row : Nat, row ≤ n + 1 ∧ i = .int .i64 (row : Int) ∧ Hid (∀ r, r < row → sg (xs[place n r]?.getD 0) = false)) (fun i => n + 1 - (intOf i).toNat)
            case atStart => exact ⟨0, by omega, by simp, fun r hr => absurd hr (by omega)⟩
            case round =>
              obtain ⟨row, hrow, rfl, HS⟩ := hrel
              by_cases hlr : row ≤ n
              · obtain ⟨p, HP⟩ : ∃ p, Hid (place n row = p) := ⟨_, rfl⟩
                have hpl : p < xs.length := by rw [← HP.out]; exact place_lt hn6 hlr HLEN.out
                obtain ⟨b, off, cap', e, hb, hc', hcs⟩ := F.cell (by omega)
                cases e
                have hck := hcs p hpl
                have hok := okF_getD hF.1 p
                obtain ⟨x, hx⟩ : ∃ x, xs[p]?.getD 0 = x := ⟨_, rfl⟩
                rw [hx] at hck hok
                have HX : Hid (xs[place n row]?.getD 0 = x) := by show _ = _; rw [HP.out]; exact hx
                have HLX : Hid (leH x = true) := by
                  show _ = _
                  have h := List.all_eq_true.1 HALL.out xs[p] (List.getElem_mem hpl)
                  have e2 : xs[p] = x := by simpa [hpl] using hx
                  rwa [e2] at h
                have HN : Hid (negN x = sg x) := by
                  show _ = _
                  have h := HLX.out
                  rw [leH_ref] at h
                  simp only [Bool.and_eq_true, decide_eq_true_eq] at h
                  unfold negN sg
                  rw [decide_eq_false (show ¬ kindN x = 3 by omega)]
                  rfl
                clear hx hcs
                have hpi : ((place n row + (row - row) : Nat) : Int) = (p : Int) := by rw [HP.out]; omega
                have k := rat_yes n row row W hn1 hn6 (Nat.le_refl _) hlr
                rw [hpi] at k
                clear hpi
                cases hs : sg x with
                | false =>
                  go_wp2_with fail
                  refine k.mono ?_
                  rintro e w1 ⟨rfl, rfl⟩
                  go_wp2_with fail
                  refine (split_c x hok _).mono ?_
                  rw [HN.out, hs]
                  rintro e w1 ⟨⟨m1, k1, rfl⟩, rfl⟩
                  go_wp2_with fail
                  go_round
                  case rel => exact ⟨row + 1, by omega, by go_num, fun r hr => (by
                    rcases Nat.lt_or_ge r row with h | h
                    · exact HS.out r h
                    · obtain rfl : r = row := by omega
                      rw [HX.out]; exact hs)⟩
                  case measure => simp [intOf]; omega
                | true =>
                  have HE : Hid (checkB n xs r t = false) := by show _ = _; rw [HCU.out, uns_take_false hlr (by rw [HX.out]; exact hs)]
                  go_wp2_with fail
                  refine k.mono ?_
                  rintro e w1 ⟨rfl, rfl⟩
                  go_wp2_with fail
                  refine (split_c x hok _).mono ?_
                  rw [HN.out, hs]
                  rintro e w1 ⟨⟨m1, k1, rfl⟩, rfl⟩
                  go_wp2_with fail
                  go_ret
                  exact ⟨ret_bool HE.out.symm, B⟩
              · have HE : Hid (checkB n xs r t = true) := by
                  show _ = _
                  rw [HCU.out]
                  unfold unsB
                  rw [List.all_eq_true]
                  intro q hq
                  rw [HS.out q (by have := List.mem_range.1 hq; omega)]
                  rfl
                go_wp2_with fail
                go_ret
                exact ⟨ret_bool HE.out.symm, B⟩
      · have hr' : r < 0 ∨ (¬ r < 0 ∧ 200 < r) ∨ (¬ r < 0 ∧ ¬ 200 < r ∧ t < 0) ∨ (¬ r < 0 ∧ ¬ 200 < r ∧ ¬ t < 0 ∧ 4096 < t) := by omega
        have HE : Hid (checkB c xs r t = false) := by
          show _ = _
          unfold checkB
          rw [decide_eq_false hr]
          rfl
        clear hr hle
        rcases hr' with d0 | ⟨d0, d1⟩ | ⟨d0, d1, d2⟩ | ⟨d0, d1, d2, d3⟩
        all_goals
          go_enter Tryd.func25, Tryd.ntmps25
          go_wp2_with fail
          go_quiet ((go_at_call 40; refine Calls.quiet_of_same (rsize_c _ _)))
          go_wp2
          go_ret
          exact ⟨ret_bool HE.out.symm, below_drewN hB _⟩
    · have hle' : ((xs.length : Int) != sizeZ c) = true := by simp [hle]
      have HE : Hid (checkB c xs r t = false) := by
        show _ = _
        unfold checkB shapeB
        rw [decide_eq_false (show ¬ ((1 ≤ c ∧ c ≤ 6) ∧ (xs.length : Int) = sizeZ c) from fun h => hle h.2)]
        simp
      clear hle
      go_enter Tryd.func25, Tryd.ntmps25
      go_wp2_with fail
      go_quiet ((go_at_call 40; refine Calls.quiet_of_same (rsize_c _ _)))
      go_wp2
      go_ret
      exact ⟨ret_bool HE.out.symm, below_drewN hB _⟩
  · have hs' : (sizeZ c == 0) = true := by rw [sizeZ_no hc]; rfl
    have HE : Hid (checkB c xs r t = false) := by
      show _ = _
      unfold checkB shapeB
      rw [decide_eq_false (show ¬ ((1 ≤ c ∧ c ≤ 6) ∧ (xs.length : Int) = sizeZ c) from fun h => hc h.1)]
      simp
    clear hc
    go_enter Tryd.func25, Tryd.ntmps25
    go_wp2_with fail
    go_quiet ((go_at_call 40; refine Calls.quiet_of_same (rsize_c _ _)))
    go_wp2
    go_ret
    exact ⟨ret_bool HE.out.symm, below_drewN hB _⟩
end Go.Proofs.YtdccjlaneobldaaDoor
