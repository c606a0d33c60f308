/- levellinglaw17.StatsSpread: the walk. -/
import Derived.Deep.RegionHeld3
import Derived.Test.YtbkmpoeaindnaaaDoorDXs
import Derived.Test.YtbkmpoeaindnaaaDoorSqrt
import Derived.Test.YtbkmpoeaindnaaaDoorFitLaw
namespace Go.Proofs.YtbkmpoeaindnaaaDoor
open Go.RowKit Go.Shelf Rnd N

theorem pw_eq (k : Nat) : pw k = 2 ^ k := rfl
/-- The number whose square root is told, and the root: what the law asks of their units. -/
structure Sp (p v : Nat) : Prop where
  pl : p < 2 ^ 2098
  vl : v < 2 ^ 2098
  le : ((p * p : Nat) - (v * pw 1074 : Nat) : Int).natAbs ≤ v * 3 * pw 1021 + pw 1088
theorem sp_ok {V P : Nat} (hV : V < 9218868437227405312) (h : Ieee.double.sqrt V = some P) : P < 9218868437227405312 ∧ Sp (uv P) (uv V) := by
  have hi := inf_eq
  obtain ⟨p, h1, h2, h3, h4⟩ := sqrt_near (x := V) (by omega)
  obtain rfl : p = P := Option.some.inj (h1.symm.trans h)
  refine ⟨by omega, uv_small2 (by omega), uv_small2 hV, ?_⟩
  have e : pw 53 * pw 1021 = pw 1074 := pow_mul' 53 1021 1074 (by decide)
  have e5 : pw 53 = 9007199254740992 := by decide
  have e2 : uv V * pw 1074 = 9007199254740992 * (uv V * pw 1021) := by rw [← e, e5, Nat.mul_left_comm]
  rw [← pw_eq 1074] at h3 h4
  rw [e2] at h3 h4 ⊢
  have e4 : uv V * 3 * pw 1021 = 3 * (uv V * pw 1021) := by rw [Nat.mul_comm (uv V) 3, Nat.mul_assoc]
  rw [e4]
  generalize uv V * pw 1021 = A at *
  generalize uv p * uv p = C at *
  generalize pw 1088 = G
  omega

set_option maxRecDepth 100000 in
set_option maxHeartbeats 16000000 in
theorem spread_go (hlive : LiveC) (c m t : Int) (sv : Value) (w : World) (hT : Tab w) (h0 : Arg w sv) :
    Calls Tryd.prog 8 #[fv c sv m t] w fun e w' => e = .returned (.bool true) ∧ Below w.heap.size w w' := by
  obtain ⟨a, len, cap, rfl, hmax, hx⟩ := h0
  have B : Below w.heap.size w (w.alloc (fcells c (.slice a len cap) m t)) := (Below.refl _ w).alloc (Nat.le_refl _) _
  by_cases g0 : 60 < len
  · have g0' : (60 : Int) < (len : Int) := by omega
    go_enter Tryd.func8, Tryd.ntmps8
    go_wp2_with fail
    refine (hlive _ (hT.below B)).mono ?_
    rintro e w' ⟨rfl, hb⟩
    go_wp2
    go_ret
    exact ⟨rfl, B.trans (hb.mono B.size)⟩
  have g0' : ¬ (60 : Int) < (len : Int) := by omega
  obtain ⟨xs, hF, rfl⟩ := hx (by omega)
  clear hx
  have X := FBox.new w c (.slice a xs.length cap) m t
  have kO := of_all c m t _ xs _ (hT.below B) (hF.below B (Nat.le_refl _))
  have kS := fun W (h : Below w.heap.size w W) => spread_all c m t _ xs W (hT.below h) (hF.below h (Nat.le_refl _))
  unfold OfC at kO
  unfold SpC at kS
  by_cases hE : stE c xs m t = 0
  · obtain ⟨hck, hr⟩ := stE_zero hE
    have S := st_ok hck hF.1 hr
    obtain ⟨y1, y2, y3, y4, y5, y6⟩ := st_yes hE
    rw [hE, y1, y2, y3, y4, y5] at kO
    rw [hE, y6] at kS
    clear y1 y2 y3 y4 y5 y6 hE
    have f1 := S.restF
    have f4 := S.varL
    have f7 := S.sp
    clear S hck hr
    generalize restN c xs m t = R at *
    generalize totN c xs m t = T at *
    generalize varN c xs m t = V at *
    generalize fitN c xs m t = I at *
    generalize spN c xs m t = P at *
    generalize m - c = F at *
    have hVf : V < 9218868437227405312 := by omega
    obtain ⟨hPf, SP⟩ := sp_ok hVf f7
    have o1 := wge (a := P) (b := 0) hPf (by decide) (Nat.zero_le _)
    clear f1 f4 f7
    have kd : ∀ W, Calls Tryd.prog 21 #[fl P] W fun r w' => DyT r w' ((uv P : Nat) : Int) (-1074) ∧ Below W.heap.size W w' := fun W => by
      have h := rdfrom_c P (by omega) (by rw [inf_eq]; omega) W
      rw [sv_nat (by omega)] at h
      exact h
    have kv : ∀ W, Calls Tryd.prog 21 #[fl V] W fun r w' => DyT r w' ((uv V : Nat) : Int) (-1074) ∧ Below W.heap.size W w' := fun W => by
      have h := rdfrom_c V (by omega) (by rw [inf_eq]; omega) W
      rw [sv_nat (by omega)] at h
      exact h
    obtain ⟨pl, vl, ple⟩ := SP
    obtain ⟨u, hu⟩ : ∃ u : Nat, 2098 = u := ⟨_, rfl⟩
    rw [hu] at pl vl
    generalize uv P = p at *
    generalize uv V = v at *
    have eK := bigK_eq
    have b0 := lt_big vl (by omega)
    have b1 := mul_lt_pow vl (show 3 < 2 ^ 2 by decide)
    have b2 := mul_lt_pow b1 (pw_lt (k := 1021) (n := 1022) (by decide))
    have b3 := add_lt_pow b2 (pw_lt (k := 1088) (n := u + 2 + 1022) (by omega))
    have b4 := mul_lt_pow pl pl
    have b5 := mul_lt_pow vl (pw_lt (k := 1074) (n := 1075) (by decide))
    have b6 : (((p * p : Nat) : Int) - ((v * pw 1074 : Nat) : Int)).natAbs < BIG := Nat.lt_of_le_of_lt ple (lt_big b3 (by omega))
    have p53 := pow_pw (k := -53) (g := -1074) (n := 1021) (by decide)
    have p1060 := pow_pw (k := -1060) (g := -2148) (n := 1088) (by decide)
    have kt : ∀ W n u e, Dy W n u e (v : Int) (-1074) → Calls Tryd.prog 24 #[dyv n u e, .int .i64 3] W fun r w' => DyR r w' ((v * 3 : Nat) : Int) (-1074) ∧ Below W.heap.size W w' := fun W n u e h => by
      have k := rtimes_c n u e v (-1074) 3 W h (by decide) (by decide) (by decide) (by rw [Int.natAbs_natCast]; exact b0) (by rw [← Int.natCast_mul, Int.natAbs_natCast]; exact lt_big b1 (by omega))
      rw [← Int.natCast_mul] at k
      exact k
    have kp : ∀ W, Calls Tryd.prog 25 #[.int .i64 (-53)] W fun r w' => DyR r w' ((pw 1021 : Nat) : Int) (-1074) ∧ Below W.heap.size W w' := fun W => by
      have k := rpow4_c (-53) (-1074) W (by decide) (by decide) (by decide) (by rw [p53]; exact pw_big (by decide))
      rw [p53] at k
      exact k
    have kq : ∀ W, Calls Tryd.prog 25 #[.int .i64 (-1060)] W fun r w' => DyR r w' ((pw 1088 : Nat) : Int) (-2148) ∧ Below W.heap.size W w' := fun W => by
      have k := rpow4_c (-1060) (-2148) W (by decide) (by decide) (by decide) (by rw [p1060]; exact pw_big (by decide))
      rw [p1060] at k
      exact k
    have km : ∀ W n u e n' u' e', Dy W n u e ((v * 3 : Nat) : Int) (-1074) → Dy W n' u' e' ((pw 1021 : Nat) : Int) (-1074) → Calls Tryd.prog 23 #[dyv n u e, dyv n' u' e'] W fun r w' => DyR r w' ((v * 3 * pw 1021 : Nat) : Int) (-2148) ∧ Below W.heap.size W w' := fun W n u e n' u' e' h h' => by
      have k := rdmul_c n n' u u' e e' _ _ (-1074) (-1074) W h h' (by decide) (by decide) (by decide) (by rw [Int.natAbs_natCast]; exact lt_big b1 (by omega)) (by rw [Int.natAbs_natCast]; exact pw_big (by decide)) (by rw [← Int.natCast_mul, Int.natAbs_natCast]; exact lt_big b2 (by omega))
      rw [← Int.natCast_mul] at k
      exact k
    have ka : ∀ W n u e n' u' e', Dy W n u e ((v * 3 * pw 1021 : Nat) : Int) (-2148) → Dy W n' u' e' ((pw 1088 : Nat) : Int) (-2148) → Calls Tryd.prog 22 #[dyv n u e, dyv n' u' e'] W fun r w' => DyR r w' ((v * 3 * pw 1021 + pw 1088 : Nat) : Int) (-2148) ∧ Below W.heap.size W w' := fun W n u e n' u' e' h h' => by
      have k := rdadd_c n n' u u' e e' _ _ (-2148) W h h' (by decide) (by decide) (by rw [Int.natAbs_natCast]; exact lt_big b2 (by omega)) (by rw [Int.natAbs_natCast]; exact pw_big (by decide)) (by rw [← Int.natCast_add, Int.natAbs_natCast]; exact lt_big b3 (by omega))
      rw [← Int.natCast_add] at k
      exact k
    have kdd : ∀ W n u e, Dy W n u e (p : Int) (-1074) → Calls Tryd.prog 23 #[dyv n u e, dyv n u e] W fun r w' => DyR r w' ((p * p : Nat) : Int) (-2148) ∧ Below W.heap.size W w' := fun W n u e h => by
      have k := rdmul_c n n u u e e _ _ (-1074) (-1074) W h h (by decide) (by decide) (by decide) (by rw [Int.natAbs_natCast]; exact lt_big pl (by omega)) (by rw [Int.natAbs_natCast]; exact lt_big pl (by omega)) (by rw [← Int.natCast_mul, Int.natAbs_natCast]; exact lt_big b4 (by omega))
      rw [← Int.natCast_mul] at k
      exact k
    have ks : ∀ W n u e n' u' e', Dy W n u e ((p * p : Nat) : Int) (-2148) → Dy W n' u' e' (v : Int) (-1074) → Calls Tryd.prog 29 #[dyv n u e, dyv n' u' e'] W fun r w' => DyR r w' (((p * p : Nat) : Int) - ((v * pw 1074 : Nat) : Int)) (-2148) ∧ Below W.heap.size W w' := fun W n u e n' u' e' h h' => by
      have h2 := h'.unit (g' := -2148) (by decide)
      have e1 : 2 ^ ((-1074 : Int) - (-2148)).toNat = pw 1074 := pow_pw (by decide)
      rw [e1, ← Int.natCast_mul] at h2
      exact rdsub_c n n' u u' e e' _ _ (-2148) W h h2 (by decide) (by decide) (by rw [Int.natAbs_natCast]; exact lt_big b4 (by omega)) (by rw [Int.natAbs_natCast]; exact lt_big b5 (by omega)) b6
    have kab : ∀ W n u e, Dy W n u e (((p * p : Nat) : Int) - ((v * pw 1074 : Nat) : Int)) (-2148) → Calls Tryd.prog 28 #[dyv n u e] W fun r w' => DyR r w' (((((p * p : Nat) : Int) - ((v * pw 1074 : Nat) : Int)).natAbs : Nat) : Int) (-2148) ∧ Below W.heap.size W w' := fun W n u e h => rabs_c n u e _ (-2148) W h (by decide) (by decide) b6
    have kc : ∀ W n u e n' u' e', Dy W n u e (((((p * p : Nat) : Int) - ((v * pw 1074 : Nat) : Int)).natAbs : Nat) : Int) (-2148) → Dy W n' u' e' ((v * 3 * pw 1021 + pw 1088 : Nat) : Int) (-2148) → Calls Tryd.prog 27 #[dyv n u e, dyv n' u' e'] W fun r w' => (∃ o : Int, r = .returned (.int .i64 o) ∧ o ≤ 0) ∧ Below W.heap.size W w' := fun W n u e n' u' e' h h' => by
      refine (rdcmp_c n n' u u' e e' _ _ (-2148) W h h' (by decide) (by rw [Int.natAbs_natCast]; exact b6) (by rw [Int.natAbs_natCast]; exact lt_big b3 (by omega)) (by omega) (by omega)).mono ?_
      rintro r w' ⟨rfl, hb⟩
      rw [Int.natAbs_natCast, Int.natAbs_natCast]
      exact ⟨⟨_, rfl, ordN_le ple⟩, hb⟩
    generalize ((((p * p : Nat) : Int) - ((v * pw 1074 : Nat) : Int)).natAbs : Nat) = q1 at *
    generalize ((p * p : Nat) : Int) - ((v * pw 1074 : Nat) : Int) = q2 at *
    generalize p * p = q3 at *
    generalize v * 3 * pw 1021 + pw 1088 = q4 at *
    generalize v * 3 * pw 1021 = q5 at *
    generalize v * 3 = q6 at *
    clear b0 b1 b2 b3 b4 b5 b6 eK p53 p1060 pl vl ple hu
    generalize pw 1021 = q7 at *
    generalize pw 1088 = q8 at *
    go_enter Tryd.func8, Tryd.ntmps8
    go_wp2_with fail
    refine kO.mono ?_
    rintro e w1 ⟨rfl, hb⟩
    replace X := X.step hb (scells F R T V I)
    replace B := bal2 B hb (scells F R T V I) B.size
    have Y := SBox.new w1 F R T V I
    clear hb kO
    have c0 := X.c0
    have c1 := X.c1
    have c2 := X.c2
    have c3 := X.c3
    go_wp2_with fail
    refine (kS _ B).mono ?_
    rintro e w2 ⟨rfl, hb⟩
    replace B := B.trans (hb.mono B.size)
    replace Y := Y.below hb Y.lt
    clear hb kS c0 c1 c2 c3 X
    go_wp2_with fail
    refine (kd _).mono ?_
    rintro e w3 ⟨⟨n3, u3, e3, rfl, D3⟩, hb⟩
    obtain ⟨a3, l3, k3, rfl⟩ := D3.shape
    replace B := bal2 B hb (dcells n3 (.slice a3 l3 k3) e3) B.size
    replace Y := Y.step hb (dcells n3 (.slice a3 l3 k3) e3)
    have X3 := DX.new D3
    clear hb D3
    have y3 := Y.c3
    go_wp2_with fail
    refine (kv _).mono ?_
    rintro e w4 ⟨⟨n4, u4, e4, rfl, D4⟩, hb⟩
    obtain ⟨a4, l4, k4, rfl⟩ := D4.shape
    replace B := bal2 B hb (dcells n4 (.slice a4 l4 k4) e4) B.size
    replace X3 := (X3.below hb).below (ba w4 (dcells n4 (.slice a4 l4 k4) e4))
    have X4 := DX.new D4
    clear hb D4 y3 Y
    have d0 := X4.x.c0
    have d1 := X4.x.c1
    have d2 := X4.x.c2
    go_wp2_with fail
    refine (kt _ _ _ _ X4.d).mono ?_
    rintro e w5 ⟨⟨n5, u5, e5, rfl, D5⟩, hb⟩
    replace B := B.trans (hb.mono B.size)
    replace X3 := X3.below hb
    replace X4 := X4.below hb
    clear hb d0 d1 d2
    go_wp2_with fail
    refine (kp _).mono ?_
    rintro e w6 ⟨⟨n6, u6, e6, rfl, D6⟩, hb⟩
    replace B := B.trans (hb.mono B.size)
    replace X3 := X3.below hb
    replace X4 := X4.below hb
    replace D5 := D5.below hb (Nat.le_refl _)
    clear hb
    go_wp2_with fail
    refine (km _ _ _ _ _ _ _ D5 D6).mono ?_
    rintro e w7 ⟨⟨n7, u7, e7, rfl, D7⟩, hb⟩
    replace B := B.trans (hb.mono B.size)
    replace X3 := X3.below hb
    replace X4 := X4.below hb
    clear hb D5 D6
    go_wp2_with fail
    refine (kq _).mono ?_
    rintro e w8 ⟨⟨n8, u8, e8, rfl, D8⟩, hb⟩
    replace B := B.trans (hb.mono B.size)
    replace X3 := X3.below hb
    replace X4 := X4.below hb
    replace D7 := D7.below hb (Nat.le_refl _)
    clear hb
    go_wp2_with fail
    refine (ka _ _ _ _ _ _ _ D7 D8).mono ?_
    rintro e w9 ⟨⟨n9, u9, e9, rfl, D9⟩, hb⟩
    obtain ⟨a9, l9, k9, rfl⟩ := D9.shape
    replace B := bal2 B hb (dcells n9 (.slice a9 l9 k9) e9) B.size
    replace X3 := (X3.below hb).below (ba w9 (dcells n9 (.slice a9 l9 k9) e9))
    replace X4 := (X4.below hb).below (ba w9 (dcells n9 (.slice a9 l9 k9) e9))
    have X9 := DX.new D9
    clear hb D7 D8 D9
    generalize w3.heap.size = P3 at *
    generalize w4.heap.size = P4 at *
    have HV : Hid (Tab (w9.alloc (dcells n9 (.slice a9 l9 k9) e9))) := hT.below B
    go_wp2_with fail
    generalize w9.heap.size = P9 at *
    generalize w9.alloc (dcells n9 (.slice a9 l9 k9) e9) = Z at *
    have bD : Below Z.heap.size Z Z.drew := (Below.refl _ _).drew
    have kM := kdd Z.drew n3 _ e3 (X3.below bD).d
    have kSb : ∀ w' n v e, Below Z.heap.size Z w' → Dy w' n v e (q3 : Int) (-2148) → Calls Tryd.prog 29 #[dyv n v e, dyv n4 (.slice a4 l4 k4) e4] w' fun r w'' => DyR r w'' q2 (-2148) ∧ Below Z.heap.size Z w'' := fun w' n v e hw hd =>
      (ks w' n v e _ _ _ hd (X4.below hw).d).mono fun r w'' ⟨o1, o2⟩ => ⟨o1, hw.trans (o2.mono hw.size)⟩
    have kAb : ∀ w' n v e, Below Z.heap.size Z w' → Dy w' n v e q2 (-2148) → Calls Tryd.prog 28 #[dyv n v e] w' fun r w'' => DyR r w'' (q1 : Int) (-2148) ∧ Below Z.heap.size Z w'' := fun w' n v e hw hd =>
      (kab w' n v e hd).mono fun r w'' ⟨o1, o2⟩ => ⟨o1, hw.trans (o2.mono hw.size)⟩
    have kCm : ∀ w' n v e, Below Z.heap.size Z w' → Dy w' n v e (q1 : Int) (-2148) → Calls Tryd.prog 27 #[dyv n v e, dyv n9 (.slice a9 l9 k9) e9] w' fun r w'' => (∃ o : Int, r = .returned (.int .i64 o) ∧ o ≤ 0) ∧ Below Z.heap.size Z w'' := fun w' n v e hw hd =>
      (kc w' n v e _ _ _ hd (X9.below hw).d).mono fun r w'' ⟨o1, o2⟩ => ⟨o1, hw.trans (o2.mono hw.size)⟩
    have kL : ∀ w', Below Z.heap.size Z w' → Calls Tryd.prog 9 #[] w' fun e w'' => e = .returned (.bool true) ∧ Below Z.heap.size Z w'' := fun w' hw =>
      (hlive w' (HV.out.below hw)).mono fun r w'' ⟨o1, o2⟩ => ⟨o1, hw.trans (o2.mono hw.size)⟩
    have mk : ∀ w', Below Z.heap.size Z w' → (w'.cell? ⟨P3, 0, none⟩ = some (.bool n3) ∧ w'.cell? ⟨P3, 1, none⟩ = some (.slice a3 l3 k3) ∧ w'.cell? ⟨P3, 2, none⟩ = some (.int .i64 e3) ∧ w'.cell? ⟨P4, 0, none⟩ = some (.bool n4) ∧ w'.cell? ⟨P4, 1, none⟩ = some (.slice a4 l4 k4) ∧ w'.cell? ⟨P4, 2, none⟩ = some (.int .i64 e4) ∧ w'.cell? ⟨P9, 0, none⟩ = some (.bool n9) ∧ w'.cell? ⟨P9, 1, none⟩ = some (.slice a9 l9 k9) ∧ w'.cell? ⟨P9, 2, none⟩ = some (.int .i64 e9)) := fun w' hw => by
      have p := (X3.below hw).x
      have q := (X4.below hw).x
      have r := (X9.below hw).x
      exact ⟨p.c0, p.c1, p.c2, q.c0, q.c1, q.c2, r.c0, r.c1, r.c2⟩
    clear kt kp kq km ka kdd ks kab kc kd kv
    go_region_held3 (fun w' => w'.cell? ⟨P3, 0, none⟩ = some (.bool n3) ∧ w'.cell? ⟨P3, 1, none⟩ = some (.slice a3 l3 k3) ∧ w'.cell? ⟨P3, 2, none⟩ = some (.int .i64 e3) ∧ w'.cell? ⟨P4, 0, none⟩ = some (.bool n4) ∧ w'.cell? ⟨P4, 1, none⟩ = some (.slice a4 l4 k4) ∧ w'.cell? ⟨P4, 2, none⟩ = some (.int .i64 e4) ∧ w'.cell? ⟨P9, 0, none⟩ = some (.bool n9) ∧ w'.cell? ⟨P9, 1, none⟩ = some (.slice a9 l9 k9) ∧ w'.cell? ⟨P9, 2, none⟩ = some (.int .i64 e9)) (exact mk _ (by assumption))
      ((first | (go_at_call 23; (with_reducible refine kM.mono ?_); rintro r wA ⟨⟨nA, vA, xA, rfl, hA⟩, hbA'⟩; have hbA : Below Z.heap.size Z wA := bD.trans hbA') | (go_at_call 29; (with_reducible refine (kSb wA nA vA xA hbA hA).mono ?_); rintro r wB ⟨⟨nB, vB, xB, rfl, hB⟩, hbB⟩) | (go_at_call 28; (with_reducible refine (kAb wB nB vB xB hbB hB).mono ?_); rintro r wC ⟨⟨nC, vC, xC, rfl, hC⟩, hbC⟩) | (go_at_call 27; (with_reducible refine (kCm wC nC vC xC hbC hC).mono ?_); rintro r wD ⟨⟨o, rfl, ho⟩, hbD⟩) | (go_at_call 9; (with_reducible refine (kL wD hbD).mono ?_); rintro r wE ⟨rfl, hbE⟩)))
    all_goals
      go_wp2_with fail
      go_ret
      exact ⟨rfl, B.trans (hbE.mono B.size)⟩
  · obtain ⟨y1, y2, y3, y4, y5, y6⟩ := st_no hE
    rw [y1, y2, y3, y4, y5] at kO
    rw [y6] at kS
    clear y1 y2 y3 y4 y5 y6
    obtain ⟨E, HE⟩ : ∃ E, Hid (stE c xs m t = E) := ⟨_, rfl⟩
    rw [HE.out] at kO kS hE
    have hE' : (E != 0) = true := by simpa using hE
    have hEE : (E != E) = false := by simp
    have hE2 : (E == E) = true := by simp
    clear hE
    have kE := same_c 0 0 (by decide) (by decide)
    rw [sameB_refl] at kE
    go_enter Tryd.func8, Tryd.ntmps8
    go_wp2_with fail
    refine kO.mono ?_
    rintro e w1 ⟨rfl, hb⟩
    replace X := X.step hb (scells 0 0 0 0 0)
    replace B := bal2 B hb (scells 0 0 0 0 0) B.size
    clear hb kO
    have c0 := X.c0
    have c1 := X.c1
    have c2 := X.c2
    have c3 := X.c3
    go_wp2_with fail
    refine (kS _ B).mono ?_
    rintro e w2 ⟨rfl, hb⟩
    replace B := B.trans (hb.mono B.size)
    clear hb kS c0 c1 c2 c3 X
    go_wp2_with fail
    refine (kE _).mono ?_
    rintro e w3 ⟨rfl, rfl⟩
    go_wp2_with fail
    refine (hlive _ (hT.below B)).mono ?_
    rintro e w' ⟨rfl, hb⟩
    go_wp2
    go_ret
    exact ⟨rfl, B.trans (hb.mono B.size)⟩
end Go.Proofs.YtbkmpoeaindnaaaDoor
