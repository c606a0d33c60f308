/- levellingref17.Miss. -/
import Derived.Test.YtbkmpoeaindnaaaDoorGLine
import Derived.Test.YtbkmpoeaindnaaaDoorMissAll
namespace Go.Proofs.YtbkmpoeaindnaaaDoor
open Go.RowKit Go.Shelf Rnd

set_option maxRecDepth 100000 in
set_option maxHeartbeats 2000000 in
theorem rmiss_all (c r t : Int) (sv lv : Value) (xs ls : List Nat) (w : World) (hF : Fls w sv xs) (hL : Fls w lv ls) : MisC 17 w c sv lv xs ls r t := by
  unfold MisC
  have hl1 := hL.2.1
  obtain ⟨a, cap, rfl, hcap⟩ := hF.shape
  obtain ⟨la, lcap, rfl, hlcap⟩ := hL.shape
  have hB : Below w.heap.size w (w.alloc (fcells c (.slice a xs.length cap) r t)) := (Below.refl _ w).alloc (Nat.le_refl _) _
  have X := FBox.new w c (.slice a xs.length cap) r t
  have kC := rcheck_c c r t _ xs _ (hF.below hB (Nat.le_refl _))
  cases hck : checkB c xs r t with
  | false =>
    obtain ⟨e1, e2⟩ := mi_arg (ls := ls) (.inl hck)
    rw [e1, e2]
    rw [hck] at kC
    clear e1 e2 hck
    go_enter Tryd.func17, Tryd.ntmps17
    go_wp2_with fail
    refine kC.mono ?_
    rintro e w1 ⟨rfl, hb1⟩
    have B1 := hB.trans (hb1.mono hB.size)
    go_wp2_with fail
    go_ret2
    exact ⟨rfl, B1⟩
  | true =>
    rw [hck] at kC
    by_cases hlen : (ls.length : Int) = c
    · have HCK : Hid (checkB c xs r t = true) := hck
      have HLE : Hid ((ls.length : Int) = c) := hlen
      obtain ⟨n, hn, hn1, hn6, hxl⟩ := check_len hck
      clear hxl
      subst hn
      have hln : ls.length = n := by omega
      clear hck hlen
      have hne : ((n : Int) != (n : Int)) = false := by simp
      rw [hln] at hL hlcap ⊢
      obtain ⟨E, HE⟩ : ∃ E, Hid (miE n xs r t ls = E) := ⟨_, rfl⟩
      obtain ⟨V, HV⟩ : ∃ V, Hid (miV n xs r t ls = V) := ⟨_, rfl⟩
      rw [HE.out, HV.out]
      have HLN : Hid (ls.length = n) := hln
      clear hln
      have hm := run_op (op := .mul) (by simp) Tryd.prog 26
      have hs := run_op (op := .sub) (by simp) Tryd.prog 26
      have ha := run_op (op := .add) (by simp) Tryd.prog 26
      go_enter Tryd.func17, Tryd.ntmps17
      go_wp2_with fail
      refine kC.mono ?_
      rintro e w1 ⟨rfl, hb1⟩
      have B1 := hB.trans (hb1.mono hB.size)
      have X1 := X.below hb1 (Nat.le_refl _)
      have c0 := X1.c0
      clear hb1 X hB kC
      go_wp2_with fail
      go_loopw [6, 7] (fun s i wr => ∃ k : Nat, k ≤ n ∧ i = .int .i64 (k : Int) ∧ Below w.heap.size w wr ∧ FBox wr w.heap.size n (.slice a xs.length cap) r t ∧ ∃ z, z < 18446744073709551616 ∧ s = fl z ∧ cls z = sumC n n xs r t ls k) (fun _ i _ => n - (intOf i).toNat)
      case atStart => exact ⟨0, Nat.zero_le _, by simp, B1, X1, 0, by decide, rfl, by simp only [sumC]; decide⟩
      case round =>
        clear B1 X1 c0
        obtain ⟨k, hk, rfl, B, X, z, hz, rfl, hc⟩ := hrel
        have HC : Hid (cls z = sumC n n xs r t ls k) := hc
        clear hc
        have c0 := X.c0
        have c1 := X.c1
        have c2 := X.c2
        have c3 := X.c3
        by_cases hlt : k < n
        · have hlt' : (k : Int) < (n : Int) := by omega
          go_wp2_with fail
          refine (N.rget_c n r t k n _ xs _ (hF.below B (Nat.le_refl _))).mono ?_
          rintro e w2 ⟨rfl, hb2⟩
          obtain ⟨d0, h0, hd0⟩ : ∃ d, cls d = leftC n xs r t ls k 0 ∧ getN n xs r t (k : Int) n = d := ⟨_, rfl, rfl⟩
          have hd : d0 < 18446744073709551616 := by rw [← hd0]; exact (ent_ok HCK.out hF.1 _ _).2
          rw [hd0]
          clear hd0
          have H0 : Hid (cls d0 = leftC n xs r t ls k 0) := h0
          clear h0
          have B2 := B.trans (hb2.mono B.size)
          have X2 := X.below hb2 (Nat.le_refl _)
          clear hb2 B X c0 c1 c2 c3
          go_wp2_with fail
          go_loopw [8, 9] (fun d j wr => ∃ q m : Nat, q ≤ n ∧ q = k + m ∧ j = .int .i64 (q : Int) ∧ Below w.heap.size w wr ∧ FBox wr w.heap.size n (.slice a xs.length cap) r t ∧ ∃ y, y < 18446744073709551616 ∧ d = fl y ∧ cls y = leftC n xs r t ls k m) (fun _ j _ => n - (intOf j).toNat)
          case atStart => exact ⟨k, 0, hk, rfl, rfl, B2, X2, d0, hd, rfl, H0.out⟩
          case round =>
            clear H0 hd B2 X2
            obtain ⟨q, m, hq, hqm, rfl, B, X, y, hy, rfl, hcy⟩ := hrel
            have HY : Hid (cls y = leftC n xs r t ls k m) := hcy
            have HQ : Hid (q = k + m) := hqm
            clear hcy hqm
            have x0 := X.c0
            by_cases hltq : q < n
            · have hltq' : (q : Int) < (n : Int) := by omega
              obtain ⟨lb, off, cap', e, _, _, hcs⟩ := (hL.below B (Nat.le_refl _)).cell (by rw [HLN.out]; omega)
              rw [HLN.out] at e
              cases e
              have hcell := hcs q (by rw [HLN.out]; omega)
              obtain ⟨v, HV1⟩ : ∃ v, Hid (ls[q]?.getD 0 = v) := ⟨_, rfl⟩
              rw [HV1.out] at hcell
              clear hcs
              obtain ⟨g, HG⟩ : ∃ g, Hid (getN n xs r t k q = g) := ⟨_, rfl⟩
              have bD : Below wr.heap.size wr wr.drew := (Below.refl _ wr).drew
              have mk : ∀ w', Below wr.heap.size wr w' → (w'.cell? ⟨w.heap.size, 0, none⟩ = some (.int .i64 (n : Int)) ∧ w'.cell? ⟨w.heap.size, 1, none⟩ = some (.slice a xs.length cap) ∧ w'.cell? ⟨w.heap.size, 2, none⟩ = some (.int .i64 r) ∧ w'.cell? ⟨w.heap.size, 3, none⟩ = some (.int .i64 t) ∧ w'.cell? ⟨lb, off + q, none⟩ = some (fl v)) := fun w' h => by
                have X2 := X.below h (Nat.le_refl _)
                exact ⟨X2.c0, X2.c1, X2.c2, X2.c3, (h.cell (p := ⟨lb, off + q, none⟩) (lt_of_cell hcell)).trans hcell⟩
              have kG := N.rget_c n r t k q (.slice a xs.length cap) xs wr.drew ((hF.below B (Nat.le_refl _)).below bD (Nat.le_refl _))
              rw [HG.out] at kG
              obtain ⟨q0, q1, q2, q3, q4⟩ := mk wr.drew bD
              go_wp2_with fail
              go_region_with (go_at_call 26; refine kG.mono ?_; rintro e w2 ⟨rfl, hb2⟩; have hb3 : Below wr.heap.size wr w2 := bD.trans hb2; obtain ⟨p0, p1, p2, p3, p4⟩ := mk w2 hb3)
              all_goals
                have hc2 : cls (opZ .sub y (opZ .mul g v w2) (opW .mul g v w2)) = leftC n xs r t ls k (m + 1) := by
                  rw [cls_opZ, cls_opZ, HY.out]
                  simp only [leftC]
                  rw [← HQ.out, HG.out, HV1.out]
                have hz2 := opZ_lt .sub y (opZ .mul g v w2) (opW .mul g v w2)
                have hbo := below_opW (below_opW hb3 .mul g v) .sub y (opZ .mul g v w2)
                have hB2 := B.trans (hbo.mono B.size)
                have hX2 := X.below hbo (Nat.le_refl _)
                obtain ⟨z2, HZ2⟩ : ∃ z2, z2 = opZ .sub y (opZ .mul g v w2) (opW .mul g v w2) := ⟨_, rfl⟩
                obtain ⟨W2, HW2⟩ : ∃ W2, W2 = opW .sub y (opZ .mul g v w2) (opW .mul g v w2) := ⟨_, rfl⟩
                rw [← HZ2] at hc2 hz2 ⊢
                rw [← HW2] at hB2 hX2 ⊢
                have HC2 : Hid (cls z2 = leftC n xs r t ls k (m + 1)) := hc2
                clear HZ2 HW2 hc2 p0 p1 p2 p3 p4 q0 q1 q2 q3 q4 mk bD hb2 hb3 hbo kG HG HV1 B X
                go_wp2_with fail
                go_roundw
                case rel => exact ⟨q + 1, m + 1, by omega, by have := HQ.out; omega, by go_num, hB2, hX2, z2, hz2, rfl, HC2.out⟩
                case measure => simp [intOf]; omega
            · have hltq' : ¬ (q : Int) < (n : Int) := by omega
              have hdq : decide ((q : Int) < (n : Int)) = false := decide_eq_false hltq'
              have HE2 : Hid (n - k = m) := by show _ = _; have := HQ.out; omega
              have hc2 : cls (opZ .add z (opZ .mul y y wr) (opW .mul y y wr)) = sumC n n xs r t ls (k + 1) := by
                rw [cls_opZ, cls_opZ, HY.out, HC.out]
                simp only [sumC]
                rw [HE2.out]
                rfl
              have hz2 := opZ_lt .add z (opZ .mul y y wr) (opW .mul y y wr)
              have hbo := below_opW (below_opW (Below.refl wr.heap.size wr) .mul y y) .add z (opZ .mul y y wr)
              have hB2 := B.trans (hbo.mono B.size)
              have hX2 := X.below hbo (Nat.le_refl _)
              have HC2 : Hid (cls (opZ .add z (opZ .mul y y wr) (opW .mul y y wr)) = sumC n n xs r t ls (k + 1)) := hc2
              clear hc2 hbo
              go_wp2_with fail
              go_roundw
              case rel => exact ⟨k + 1, by omega, by go_num, hB2, hX2, _, hz2, rfl, HC2.out⟩
              case measure => simp [intOf]; omega
        · obtain rfl : k = n := by omega
          have hlt' : ¬ (k : Int) < (k : Int) := by omega
          go_wp2_with fail
          refine (N.rget_c k r t k k _ xs _ (hF.below B (Nat.le_refl _))).mono ?_
          rintro e w2 ⟨rfl, hb2⟩
          obtain ⟨rho, HRHO⟩ : ∃ x, Hid (getN k xs r t k k = x) := ⟨_, rfl⟩
          rw [HRHO.out]
          have hc2 : cls (opZ .add z (opZ .mul rho rho w2) (opW .mul rho rho w2)) = missC k (k : Int).toNat xs r t ls := by
            rw [cls_opZ, cls_opZ, HC.out, ← HRHO.out, Int.toNat_natCast]
            rfl
          have hz2 := opZ_lt .add z (opZ .mul rho rho w2) (opW .mul rho rho w2)
          have hbo := below_opW (below_opW hb2 .mul rho rho) .add z (opZ .mul rho rho w2)
          have B2 := B.trans (hbo.mono B.size)
          obtain ⟨z2, HZ2⟩ : ∃ z2, Hid (opZ .add z (opZ .mul rho rho w2) (opW .mul rho rho w2) = z2) := ⟨_, rfl⟩
          rw [HZ2.out] at hc2 hz2
          have HCZ : Hid (cls z2 = missC k (k : Int).toNat xs r t ls) := hc2
          clear hc2 hbo c0 c1 c2 c3 X B hb2
          have kS := split_c z2 hz2
          rcases kind_cases z2 with h1 | h1
          · obtain ⟨e1, e2⟩ := mi_fin HCK.out HLE.out HCZ.out h1
            have HE1 : Hid (E = 0) := HE.out.symm.trans e1
            have HE2 : Hid (V = z2) := HV.out.symm.trans e2
            have hg : decide ((kindN z2 : Int) > 1) = false := decide_eq_false (by omega)
            have hg' : ¬ (1 : Int) < (kindN z2 : Int) := by omega
            clear e1 e2 h1
            go_wp2_with fail
            rw [HZ2.out]
            refine (kS _).mono ?_
            rintro e w3 ⟨⟨m1, k1, rfl⟩, rfl⟩
            go_wp2_with fail
            go_ret2
            exact ⟨by rw [HE1.out, HE2.out]; rfl, B2⟩
          · obtain ⟨e1, e2⟩ := mi_inf HCK.out HLE.out HCZ.out (by omega)
            have HE1 : Hid (E = 2) := HE.out.symm.trans e1
            have HE2 : Hid (V = 0) := HV.out.symm.trans e2
            have hg : decide ((kindN z2 : Int) > 1) = true := decide_eq_true (by omega)
            have hg' : (1 : Int) < (kindN z2 : Int) := by omega
            clear e1 e2 h1
            go_wp2_with fail
            rw [HZ2.out]
            refine (kS _).mono ?_
            rintro e w3 ⟨⟨m1, k1, rfl⟩, rfl⟩
            go_wp2_with fail
            go_ret2
            exact ⟨by rw [HE1.out, HE2.out]; rfl, B2⟩
    · obtain ⟨e1, e2⟩ := mi_arg (xs := xs) (r := r) (t := t) (.inr hlen)
      rw [e1, e2]
      have hne : ((ls.length : Int) != c) = true := by simpa using hlen
      clear e1 e2 hck hlen
      go_enter Tryd.func17, Tryd.ntmps17
      go_wp2_with fail
      refine kC.mono ?_
      rintro e w1 ⟨rfl, hb1⟩
      have B1 := hB.trans (hb1.mono hB.size)
      have c0 := (X.below hb1 (Nat.le_refl _)).c0
      go_wp2_with fail
      go_ret2
      exact ⟨rfl, B1⟩
end Go.Proofs.YtbkmpoeaindnaaaDoor
