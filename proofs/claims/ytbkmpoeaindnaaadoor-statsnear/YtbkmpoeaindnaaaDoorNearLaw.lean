/- levellinglaw17.StatsNear: the walk. -/
import Derived.Deep.RegionHeld3
import Derived.Test.YtbkmpoeaindnaaaDoorNMath9
import Derived.Test.YtbkmpoeaindnaaaDoorWithin
import Derived.Test.YtbkmpoeaindnaaaDoorFitLaw
namespace Go.Proofs.YtbkmpoeaindnaaaDoor
open Go.RowKit Go.Shelf Rnd

set_option maxRecDepth 100000 in
set_option maxHeartbeats 32000000 in
theorem near_go (hlive : LiveC) (c m t : Int) (sv : Value) (w : World) (hT : Tab w) (h0 : Arg w sv) :
    Calls Tryd.prog 7 #[fv c sv m t] w fun e w' => e = .returned (.bool true) ∧ Below w.heap.size w w' := by
  obtain ⟨a, len, cap, rfl, hmax, hx⟩ := h0
  have B : Below w.heap.size w (w.alloc (fcells c (.slice a len cap) m t)) := (Below.refl _ w).alloc (Nat.le_refl _) _
  by_cases g0 : 60 < len
  · have g0' : (60 : Int) < (len : Int) := by omega
    go_enter Tryd.func7, Tryd.ntmps7
    go_wp2_with fail
    refine (hlive _ (hT.below B)).mono ?_
    rintro e w' ⟨rfl, hb⟩
    go_wp2
    go_ret
    exact ⟨rfl, B.trans (hb.mono B.size)⟩
  have g0' : ¬ (60 : Int) < (len : Int) := by omega
  obtain ⟨xs, hF, rfl⟩ := hx (by omega)
  clear hx
  have X := FBox.new w c (.slice a xs.length cap) m t
  have kO := of_all c m t _ xs _ (hT.below B) (hF.below B (Nat.le_refl _))
  unfold OfC at kO
  by_cases hE : stE c xs m t = 0
  · obtain ⟨hck, hr⟩ := stE_zero hE
    have S := st_ok hck hF.1 hr
    obtain ⟨y1, y2, y3, y4, y5, y6⟩ := st_yes hE
    rw [hE, y1, y2, y3, y4, y5] at kO
    clear y1 y2 y3 y4 y5 y6 hE
    obtain ⟨n, hn, hn1, hn6, hxl⟩ := check_len hck
    clear hxl
    subst hn
    have f2 := S.totF
    have f1 := S.restF
    have f3 := S.tot
    rw [Int.toNat_natCast] at f3
    clear S hr
    obtain ⟨k, hsz, hlast⟩ := gram_last hck hn6
    have hS := sqS_small hck hF.1 hn6
    have hnear := total_near hck hF.1 hn6 f3
    have hrho := ent_ok hck hF.1 n n
    have hrest := rest_near hrho.1
    have hpr := pr_fin (e := 1442) (by decide)
    have hrs : restN n xs m t = sqN (getN n xs m t n n) := rfl
    rw [← hrs] at hrest
    have hNS : uv (getN n xs m t n n % 2 ^ 63) * uv (getN n xs m t n n % 2 ^ 63) ≤ sqS n xs m t (n + 1) := by
      simp only [sqS]
      exact Nat.le_add_left _ _
    have kF := fun W (h : Below w.heap.size w W) => N.rgfactor_c n m t _ xs W (hF.below h (Nat.le_refl _)) hck
    rw [hsz] at kF
    have kG := fun W (h : Below w.heap.size w W) => N.rget_c n m t n n _ xs W (hF.below h (Nat.le_refl _))
    have hsq := sq_int (getN n xs m t n n)
    clear hck f3 hrs
    generalize restN n xs m t = R at *
    generalize totN n xs m t = T at *
    generalize varN n xs m t = V at *
    generalize fitN n xs m t = I at *
    generalize m - n = F at *
    generalize sqS n xs m t (n + 1) = Q at *
    generalize N.pairZ n (N.gsum (N.ent n xs) (n + 1)) = ZZ at *
    generalize getN n xs m t n n = rho at *
    have kd : ∀ W, Calls Tryd.prog 21 #[fl T] W fun r w' => N.DyT r w' ((uv T : Nat) : Int) (-1074) ∧ Below W.heap.size W w' := fun W => by
      have h := N.rdfrom_c T (by omega) (by rw [inf_eq]; omega) W
      rw [sv_nat (by omega)] at h
      exact h
    have kr : ∀ W, Calls Tryd.prog 21 #[fl rho] W fun r w' => N.DyT r w' (Rnd.sv rho) (-1074) ∧ Below W.heap.size W w' := fun W => N.rdfrom_c rho hrho.2 (by rw [inf_eq]; omega) W
    obtain ⟨u, hu⟩ : ∃ u : Nat, 3200 = u := ⟨_, rfl⟩
    have eK := N.bigK_eq
    have Ql : Q < 2 ^ u := Nat.lt_of_le_of_lt hS (N.pw_lt (by omega))
    have Tl : uv T < 2 ^ u := N.uv_small3 f2 (by omega)
    clear hS
    generalize hM : uv (rho % 2 ^ 63) * uv (rho % 2 ^ 63) = M at *
    have Ml : M < 2 ^ u := Nat.lt_of_le_of_lt hNS Ql
    have svl : (Rnd.sv rho).natAbs < N.BIG := by
      rw [Rnd.sv_abs]
      exact N.lt_big (N.uv_small3 (x := rho % 2 ^ 63) (u := u) (by omega) (by omega)) (by omega)
    have kW := fun W nd vd ed (h : N.Dy W nd vd ed (M : Int) (-2148)) => N.rwithin_c R M u nd vd ed W f1 h Ml (by omega) (by omega) hrest
    have krr : ∀ W n v e, N.Dy W n v e (Rnd.sv rho) (-1074) → Calls Tryd.prog 23 #[N.dyv n v e, N.dyv n v e] W fun r w' => N.DyR r w' (M : Int) (-2148) ∧ Below W.heap.size W w' := fun W n v e h => by
      have k := N.rdmul_c n n v v e e _ _ (-1074) (-1074) W h h (by decide) (by decide) (by decide) svl svl (by rw [hsq, Int.natAbs_natCast]; exact N.lt_big Ml (by omega))
      rw [hsq] at k
      exact k
    generalize uv T = p at *
    have b1 := N.mul_lt_pow Ql (show n + 3 < 2 ^ 4 by omega)
    have b2 : Q * (n + 3) * 1 < 2 ^ (u + 4) := by rw [Nat.mul_one]; exact b1
    have b3 := N.add_lt_pow b2 (N.pw_lt (k := 1141) (n := u + 4) (by omega))
    have b4 := N.mul_lt_pow Tl (N.pw_lt (k := 1074) (n := 1075) (by decide))
    have b5 : (((p * pw 1074 : Nat) : Int) - (Q : Int)).natAbs * pw 53 < N.BIG := Nat.lt_of_le_of_lt hnear (N.lt_big b3 (by omega))
    have b6 : (((p * pw 1074 : Nat) : Int) - (Q : Int)).natAbs < N.BIG := Nat.lt_of_le_of_lt (Nat.le_mul_of_pos_right _ (N.pow_pos2 53)) b5
    have p53 : 2 ^ ((-53 : Int) - (-53)).toNat = 1 := by decide
    have p1060 := N.pow_pw (k := -1060) (g := -2201) (n := 1141) (by decide)
    have kt : ∀ W n' v e, N.Dy W n' v e (Q : Int) (-2148) → Calls Tryd.prog 24 #[N.dyv n' v e, .int .i64 ((n : Int) + 3)] W fun r w' => N.DyR r w' ((Q * (n + 3) : Nat) : Int) (-2148) ∧ Below W.heap.size W w' := fun W n' v e h => by
      have k := N.rtimes_c n' v e Q (-2148) (n + 3) W h (by omega) (by decide) (by decide) (by rw [Int.natAbs_natCast]; exact N.lt_big Ql (by omega)) (by rw [← Int.natCast_mul, Int.natAbs_natCast]; exact N.lt_big b1 (by omega))
      rw [← Int.natCast_mul] at k
      exact k
    have kp : ∀ W, Calls Tryd.prog 25 #[.int .i64 (-53)] W fun r w' => N.DyR r w' ((1 : Nat) : Int) (-53) ∧ Below W.heap.size W w' := fun W => by
      have k := N.rpow4_c (-53) (-53) W (by decide) (by decide) (by decide) (by rw [p53]; exact N.one_big)
      rw [p53] at k
      exact k
    have kq : ∀ W, Calls Tryd.prog 25 #[.int .i64 (-1060)] W fun r w' => N.DyR r w' ((pw 1141 : Nat) : Int) (-2201) ∧ Below W.heap.size W w' := fun W => by
      have k := N.rpow4_c (-1060) (-2201) W (by decide) (by decide) (by decide) (by rw [p1060]; exact N.pw_big (by decide))
      rw [p1060] at k
      exact k
    have km : ∀ W n1 v e n' v' e', N.Dy W n1 v e ((Q * (n + 3) : Nat) : Int) (-2148) → N.Dy W n' v' e' ((1 : Nat) : Int) (-53) → Calls Tryd.prog 23 #[N.dyv n1 v e, N.dyv n' v' e'] W fun r w' => N.DyR r w' ((Q * (n + 3) * 1 : Nat) : Int) (-2201) ∧ Below W.heap.size W w' := fun W n1 v e n' v' e' h h' => by
      have k := N.rdmul_c n1 n' v v' e e' _ _ (-2148) (-53) W h h' (by decide) (by decide) (by decide) (by rw [Int.natAbs_natCast]; exact N.lt_big b1 (by omega)) (by rw [Int.natAbs_natCast]; exact N.one_big) (by rw [← Int.natCast_mul, Int.natAbs_natCast]; exact N.lt_big b2 (by omega))
      rw [← Int.natCast_mul] at k
      exact k
    have ka : ∀ W n1 v e n' v' e', N.Dy W n1 v e ((Q * (n + 3) * 1 : Nat) : Int) (-2201) → N.Dy W n' v' e' ((pw 1141 : Nat) : Int) (-2201) → Calls Tryd.prog 22 #[N.dyv n1 v e, N.dyv n' v' e'] W fun r w' => N.DyR r w' ((Q * (n + 3) * 1 + pw 1141 : Nat) : Int) (-2201) ∧ Below W.heap.size W w' := fun W n1 v e n' v' e' h h' => by
      have k := N.rdadd_c n1 n' v v' e e' _ _ (-2201) W h h' (by decide) (by decide) (by rw [Int.natAbs_natCast]; exact N.lt_big b2 (by omega)) (by rw [Int.natAbs_natCast]; exact N.pw_big (by decide)) (by rw [← Int.natCast_add, Int.natAbs_natCast]; exact N.lt_big b3 (by omega))
      rw [← Int.natCast_add] at k
      exact k
    have ks : ∀ W n1 v e n' v' e', N.Dy W n1 v e (p : Int) (-1074) → N.Dy W n' v' e' (Q : Int) (-2148) → Calls Tryd.prog 29 #[N.dyv n1 v e, N.dyv n' v' e'] W fun r w' => N.DyR r w' (((p * pw 1074 : Nat) : Int) - (Q : Int)) (-2148) ∧ Below W.heap.size W w' := fun W n1 v e n' v' e' h h' => by
      have h2 := h.unit (g' := -2148) (by decide)
      have e1 : 2 ^ ((-1074 : Int) - (-2148)).toNat = pw 1074 := N.pow_pw (by decide)
      rw [e1, ← Int.natCast_mul] at h2
      exact N.rdsub_c n1 n' v v' e e' _ _ (-2148) W h2 h' (by decide) (by decide) (by rw [Int.natAbs_natCast]; exact N.lt_big b4 (by omega)) (by rw [Int.natAbs_natCast]; exact N.lt_big Ql (by omega)) b6
    have kab : ∀ W n1 v e, N.Dy W n1 v e (((p * pw 1074 : Nat) : Int) - (Q : Int)) (-2148) → Calls Tryd.prog 28 #[N.dyv n1 v e] W fun r w' => N.DyR r w' (((((p * pw 1074 : Nat) : Int) - (Q : Int)).natAbs : Nat) : Int) (-2148) ∧ Below W.heap.size W w' := fun W n1 v e h => N.rabs_c n1 v e _ (-2148) W h (by decide) (by decide) b6
    have kc : ∀ W n1 v e n' v' e', N.Dy W n1 v e (((((p * pw 1074 : Nat) : Int) - (Q : Int)).natAbs : Nat) : Int) (-2148) → N.Dy W n' v' e' ((Q * (n + 3) * 1 + pw 1141 : Nat) : Int) (-2201) → Calls Tryd.prog 27 #[N.dyv n1 v e, N.dyv n' v' e'] W fun r w' => (∃ o : Int, r = .returned (.int .i64 o) ∧ o ≤ 0) ∧ Below W.heap.size W w' := fun W n1 v e n' v' e' h h' => by
      have h2 := h.unit (g' := -2201) (by decide)
      have e1 : 2 ^ ((-2148 : Int) - (-2201)).toNat = pw 53 := N.pow_pw (by decide)
      rw [e1, ← Int.natCast_mul] at h2
      refine (N.rdcmp_c n1 n' v v' e e' _ _ (-2201) W h2 h' (by decide) (by rw [Int.natAbs_natCast]; exact b5) (by rw [Int.natAbs_natCast]; exact N.lt_big b3 (by omega)) (by omega) (by omega)).mono ?_
      rintro r w' ⟨rfl, hb⟩
      rw [Int.natAbs_natCast, Int.natAbs_natCast]
      exact ⟨⟨_, rfl, N.ordN_le hnear⟩, hb⟩
    generalize ((((p * pw 1074 : Nat) : Int) - (Q : Int)).natAbs : Nat) = q1 at *
    generalize ((p * pw 1074 : Nat) : Int) - (Q : Int) = q2 at *
    generalize Q * (n + 3) * 1 + pw 1141 = q4 at *
    generalize Q * (n + 3) * 1 = q5 at *
    generalize Q * (n + 3) = q6 at *
    generalize pw 1141 = q8 at *
    generalize Rnd.sv rho = q9 at *
    have HLAST : Hid (ZZ k = (Q : Int)) := hlast
    have hk30 : k ≤ 1000 := by
      have : N.szN n ≤ 28 := by
        have h : ∀ n, n ≤ 6 → N.szN n ≤ 28 := by decide
        exact h n hn6
      omega
    have hl0 : (((k + 1 : Nat) : Int) == 0) = false := by simp; omega
    have hl1 : ((k : Int) + 1 == 0) = false := by simp; omega
    clear b1 b2 b3 b4 b5 b6 eK p53 p1060 Ql Tl Ml svl hu hnear hrest hNS hsq hM hlast hrho hpr f1 f2 hsz
    go_enter Tryd.func7, Tryd.ntmps7
    go_wp2_with fail
    refine kO.mono ?_
    rintro e w1 ⟨rfl, hb⟩
    replace X := X.step hb (scells F R T V I)
    replace B := bal2 B hb (scells F R T V I) B.size
    have Y := SBox.new w1 F R T V I
    clear hb kO
    have c0 := X.c0
    have c1 := X.c1
    have c2 := X.c2
    have c3 := X.c3
    go_wp2_with fail
    refine (kF _ B).mono ?_
    rintro e w2 ⟨⟨gv, rfl, DL⟩, hb⟩
    replace X := X.below hb (Nat.le_refl _)
    replace B := B.trans (hb.mono B.size)
    replace Y := Y.below hb Y.lt
    clear hb kF c0 c1 c2 c3
    obtain ⟨_, gb, gcap, rfl, hgc, hgb, hall⟩ := DL
    obtain ⟨nW, uW, eW, l0, l1, l2, DW⟩ := hall k (by omega)
    rw [HLAST.out] at DW
    obtain ⟨aW, lW, kW', rfl⟩ := DW.shape
    clear hall hgb
    have bW := ba w2 (N.dcells nW (.slice aW lW kW') eW)
    have XW := N.DX.new DW
    have X2 := X.below bW (Nat.le_refl _)
    have Y2 := Y.below bW Y.lt
    have B2 := B.trans (bW.mono B.size)
    clear X Y B bW DW
    have y2 := Y2.c2
    go_wp2_with fail
    refine (kd _).mono ?_
    rintro e w3 ⟨⟨n3, u3, e3, rfl, D3⟩, hb⟩
    obtain ⟨a3, l3, k3, rfl⟩ := D3.shape
    have X := X2.step hb (N.dcells n3 (.slice a3 l3 k3) e3)
    have Y := Y2.step hb (N.dcells n3 (.slice a3 l3 k3) e3)
    have B := bal2 B2 hb (N.dcells n3 (.slice a3 l3 k3) e3) B2.size
    replace XW := (XW.below hb).below (ba w3 (N.dcells n3 (.slice a3 l3 k3) e3))
    have X3 := N.DX.new D3
    clear hb D3 y2 X2 Y2 B2 l0 l1 l2
    have c0 := X.c0
    have d0 := XW.x.c0
    have d1 := XW.x.c1
    have d2 := XW.x.c2
    go_wp2_with fail
    refine (kt _ _ _ _ XW.d).mono ?_
    rintro e w5 ⟨⟨n5, u5, e5, rfl, D5⟩, hb⟩
    replace X := X.below hb (Nat.le_refl _)
    replace Y := Y.below hb Y.lt
    replace B := B.trans (hb.mono B.size)
    replace XW := XW.below hb
    replace X3 := X3.below hb
    clear hb c0 d0 d1 d2
    go_wp2_with fail
    refine (kp _).mono ?_
    rintro e w6 ⟨⟨n6, u6, e6, rfl, D6⟩, hb⟩
    replace X := X.below hb (Nat.le_refl _)
    replace Y := Y.below hb Y.lt
    replace B := B.trans (hb.mono B.size)
    replace XW := XW.below hb
    replace X3 := X3.below hb
    replace D5 := D5.below hb (Nat.le_refl _)
    clear hb
    go_wp2_with fail
    refine (km _ _ _ _ _ _ _ D5 D6).mono ?_
    rintro e w7 ⟨⟨n7, u7, e7, rfl, D7⟩, hb⟩
    replace X := X.below hb (Nat.le_refl _)
    replace Y := Y.below hb Y.lt
    replace B := B.trans (hb.mono B.size)
    replace XW := XW.below hb
    replace X3 := X3.below hb
    clear hb D5 D6
    go_wp2_with fail
    refine (kq _).mono ?_
    rintro e w8 ⟨⟨n8, u8, e8, rfl, D8⟩, hb⟩
    replace X := X.below hb (Nat.le_refl _)
    replace Y := Y.below hb Y.lt
    replace B := B.trans (hb.mono B.size)
    replace XW := XW.below hb
    replace X3 := X3.below hb
    replace D7 := D7.below hb (Nat.le_refl _)
    clear hb
    go_wp2_with fail
    refine (ka _ _ _ _ _ _ _ D7 D8).mono ?_
    rintro e w9 ⟨⟨n9, u9, e9, rfl, D9⟩, hb⟩
    obtain ⟨a9, l9, k9, rfl⟩ := D9.shape
    replace X := X.step hb (N.dcells n9 (.slice a9 l9 k9) e9)
    replace Y := Y.step hb (N.dcells n9 (.slice a9 l9 k9) e9)
    replace B := bal2 B hb (N.dcells n9 (.slice a9 l9 k9) e9) B.size
    replace XW := (XW.below hb).below (ba w9 (N.dcells n9 (.slice a9 l9 k9) e9))
    replace X3 := (X3.below hb).below (ba w9 (N.dcells n9 (.slice a9 l9 k9) e9))
    have X9 := N.DX.new D9
    clear hb D7 D8 D9
    have c0 := X.c0
    have c1 := X.c1
    have c2 := X.c2
    have c3 := X.c3
    go_wp2_with fail
    refine (kG _ B).mono ?_
    rintro e wG ⟨rfl, hb⟩
    replace Y := Y.below hb Y.lt
    replace B := B.trans (hb.mono B.size)
    replace XW := XW.below hb
    replace X3 := X3.below hb
    replace X9 := X9.below hb
    clear hb c0 c1 c2 c3 X
    go_wp2_with fail
    refine (kr _).mono ?_
    rintro e wR ⟨⟨nR, uR, eR, rfl, DR⟩, hb⟩
    obtain ⟨aR, lR, kR', rfl⟩ := DR.shape
    replace Y := Y.step hb (N.dcells nR (.slice aR lR kR') eR)
    replace B := bal2 B hb (N.dcells nR (.slice aR lR kR') eR) B.size
    replace XW := (XW.below hb).below (ba wR (N.dcells nR (.slice aR lR kR') eR))
    replace X3 := (X3.below hb).below (ba wR (N.dcells nR (.slice aR lR kR') eR))
    replace X9 := (X9.below hb).below (ba wR (N.dcells nR (.slice aR lR kR') eR))
    have XR := N.DX.new DR
    clear hb DR
    have HV : Hid (Tab (wR.alloc (N.dcells nR (.slice aR lR kR') eR))) := hT.below B
    go_wp2_with fail
    generalize w1.heap.size = PS at *
    generalize w2.heap.size = PW at *
    generalize w3.heap.size = P3 at *
    generalize w9.heap.size = P9 at *
    generalize wR.heap.size = PR at *
    generalize wR.alloc (N.dcells nR (.slice aR lR kR') eR) = Z at *
    have bD : Below Z.heap.size Z Z.drew := (Below.refl _ _).drew
    have kM := ks Z.drew n3 _ e3 _ _ _ (X3.below bD).d (XW.below bD).d
    have kAb : ∀ w' n v e, Below Z.heap.size Z w' → N.Dy w' n v e q2 (-2148) → Calls Tryd.prog 28 #[N.dyv n v e] w' fun r w'' => N.DyR r w'' (q1 : Int) (-2148) ∧ Below Z.heap.size Z w'' := fun w' n v e hw hd =>
      (kab w' n v e hd).mono fun r w'' ⟨o1, o2⟩ => ⟨o1, hw.trans (o2.mono hw.size)⟩
    have kCm : ∀ w' n v e, Below Z.heap.size Z w' → N.Dy w' n v e (q1 : Int) (-2148) → Calls Tryd.prog 27 #[N.dyv n v e, N.dyv n9 (.slice a9 l9 k9) e9] w' fun r w'' => (∃ o : Int, r = .returned (.int .i64 o) ∧ o ≤ 0) ∧ Below Z.heap.size Z w'' := fun w' n v e hw hd =>
      (kc w' n v e _ _ _ hd (X9.below hw).d).mono fun r w'' ⟨o1, o2⟩ => ⟨o1, hw.trans (o2.mono hw.size)⟩
    have kRR : ∀ w', Below Z.heap.size Z w' → Calls Tryd.prog 23 #[N.dyv nR (.slice aR lR kR') eR, N.dyv nR (.slice aR lR kR') eR] w' fun r w'' => N.DyR r w'' (M : Int) (-2148) ∧ Below Z.heap.size Z w'' := fun w' hw =>
      (krr w' _ _ _ (XR.below hw).d).mono fun r w'' ⟨o1, o2⟩ => ⟨o1, hw.trans (o2.mono hw.size)⟩
    have kWn : ∀ w' n v e, Below Z.heap.size Z w' → N.Dy w' n v e (M : Int) (-2148) → Calls Tryd.prog 30 #[fl R, N.dyv n v e, .int .i64 1] w' fun e w'' => e = .returned (.bool true) ∧ Below Z.heap.size Z w'' := fun w' n v e hw hd =>
      (kW w' n v e hd).mono fun r w'' ⟨o1, o2⟩ => ⟨o1, hw.trans (o2.mono hw.size)⟩
    have kL : ∀ w', Below Z.heap.size Z w' → Calls Tryd.prog 9 #[] w' fun e w'' => e = .returned (.bool true) ∧ Below Z.heap.size Z w'' := fun w' hw =>
      (hlive w' (HV.out.below hw)).mono fun r w'' ⟨o1, o2⟩ => ⟨o1, hw.trans (o2.mono hw.size)⟩
    have mk : ∀ w', Below Z.heap.size Z w' → (w'.cell? ⟨P3, 0, none⟩ = some (.bool n3) ∧ w'.cell? ⟨P3, 1, none⟩ = some (.slice a3 l3 k3) ∧ w'.cell? ⟨P3, 2, none⟩ = some (.int .i64 e3) ∧ w'.cell? ⟨PW, 0, none⟩ = some (.bool nW) ∧ w'.cell? ⟨PW, 1, none⟩ = some (.slice aW lW kW') ∧ w'.cell? ⟨PW, 2, none⟩ = some (.int .i64 eW) ∧ w'.cell? ⟨P9, 0, none⟩ = some (.bool n9) ∧ w'.cell? ⟨P9, 1, none⟩ = some (.slice a9 l9 k9) ∧ w'.cell? ⟨P9, 2, none⟩ = some (.int .i64 e9) ∧ w'.cell? ⟨PR, 0, none⟩ = some (.bool nR) ∧ w'.cell? ⟨PR, 1, none⟩ = some (.slice aR lR kR') ∧ w'.cell? ⟨PR, 2, none⟩ = some (.int .i64 eR) ∧ w'.cell? ⟨PS, 1, none⟩ = some (fl R)) := fun w' hw => by
      have p := (X3.below hw).x
      have q := (XW.below hw).x
      have r := (X9.below hw).x
      have s := (XR.below hw).x
      exact ⟨p.c0, p.c1, p.c2, q.c0, q.c1, q.c2, r.c0, r.c1, r.c2, s.c0, s.c1, s.c2, (Y.below hw Y.lt).c1⟩
    clear kt kp kq km ka ks kab kc kd kr krr kW kG
    go_region_held3 (fun w' => w'.cell? ⟨P3, 0, none⟩ = some (.bool n3) ∧ w'.cell? ⟨P3, 1, none⟩ = some (.slice a3 l3 k3) ∧ w'.cell? ⟨P3, 2, none⟩ = some (.int .i64 e3) ∧ w'.cell? ⟨PW, 0, none⟩ = some (.bool nW) ∧ w'.cell? ⟨PW, 1, none⟩ = some (.slice aW lW kW') ∧ w'.cell? ⟨PW, 2, none⟩ = some (.int .i64 eW) ∧ w'.cell? ⟨P9, 0, none⟩ = some (.bool n9) ∧ w'.cell? ⟨P9, 1, none⟩ = some (.slice a9 l9 k9) ∧ w'.cell? ⟨P9, 2, none⟩ = some (.int .i64 e9) ∧ w'.cell? ⟨PR, 0, none⟩ = some (.bool nR) ∧ w'.cell? ⟨PR, 1, none⟩ = some (.slice aR lR kR') ∧ w'.cell? ⟨PR, 2, none⟩ = some (.int .i64 eR) ∧ w'.cell? ⟨PS, 1, none⟩ = some (fl R)) (exact mk _ (by assumption))
      ((first | (go_at_call 29; (with_reducible refine kM.mono ?_); rintro r wB ⟨⟨nB, vB, xB, rfl, hB⟩, hbB'⟩; have hbB : Below Z.heap.size Z wB := bD.trans hbB') | (go_at_call 28; (with_reducible refine (kAb wB nB vB xB hbB hB).mono ?_); rintro r wC ⟨⟨nC, vC, xC, rfl, hC⟩, hbC⟩) | (go_at_call 27; (with_reducible refine (kCm wC nC vC xC hbC hC).mono ?_); rintro r wD ⟨⟨o, rfl, ho⟩, hbD⟩) | (go_at_call 23; (with_reducible refine (kRR wD hbD).mono ?_); rintro r wE ⟨⟨nE, vE, xE, rfl, hE⟩, hbE⟩) | (go_at_call 30; (with_reducible refine (kWn wE nE vE xE hbE hE).mono ?_); rintro r wF ⟨rfl, hbF⟩) | (go_at_call 9; (with_reducible refine (kL wF hbF).mono ?_); rintro r wH ⟨rfl, hbH⟩)))
    all_goals
      go_wp2_with fail
      go_ret
      exact ⟨rfl, B.trans (hbH.mono B.size)⟩
  · obtain ⟨y1, y2, y3, y4, y5, y6⟩ := st_no hE
    rw [y1, y2, y3, y4, y5] at kO
    clear y1 y2 y3 y4 y5 y6
    obtain ⟨E, HE⟩ : ∃ E, Hid (stE c xs m t = E) := ⟨_, rfl⟩
    rw [HE.out] at kO hE
    have hE' : (E != 0) = true := by simpa using hE
    clear hE
    go_enter Tryd.func7, Tryd.ntmps7
    go_wp2_with fail
    refine kO.mono ?_
    rintro e w1 ⟨rfl, hb⟩
    replace B := bal2 B hb (scells 0 0 0 0 0) B.size
    clear hb kO
    go_wp2_with fail
    refine (hlive _ (hT.below B)).mono ?_
    rintro e w' ⟨rfl, hb⟩
    go_wp2
    go_ret
    exact ⟨rfl, B.trans (hb.mono B.size)⟩
end Go.Proofs.YtbkmpoeaindnaaaDoor
