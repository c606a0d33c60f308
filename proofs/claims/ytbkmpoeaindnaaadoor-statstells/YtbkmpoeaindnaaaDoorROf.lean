/- levellingref17.Of. -/
import Derived.Test.YtbkmpoeaindnaaaDoorGLine
import Derived.Test.YtbkmpoeaindnaaaDoorOfAll
namespace Go.Proofs.YtbkmpoeaindnaaaDoor
open Go.RowKit Go.Shelf Rnd

/-- What is known in the middle of the document's sum. -/
structure Rm (w W : World) (Q : Nat) (c : Int) (sv : Value) (r t F : Int) (R : Nat) (o : Option Nat) : Prop where
  be : Below w.heap.size w W
  bf : FBox W w.heap.size c sv r t
  br : SBox W (w.heap.size + 1) 0 0 0 0 0
  bs : ∃ z, o = some z ∧ z ≤ 9218868437227405312 ∧ SBox W Q F R z 0 0

theorem rof_results {W : World} {B : Nat} {F : Int} {R T V I : Nat} (h : SBox W B F R T V I) {tmps : Array Value} {e : Int} (h6 : tmps.getD 2 undef = .pointer (some ⟨B, 0, none⟩)) (h7 : tmps.getD 3 undef = .int .i64 e) :
    (results Tryd.f11 tmps).run Tryd.prog W = .ok (.tuple #[stv F R T V I, .int .i64 e]) W := by
  have k0 := h.c0
  have k1 := h.c1
  have k2 := h.c2
  have k3 := h.c3
  have k4 := h.c4
  rw [results_cell_tmp rfl, h6, h7]
  simp [go_sem, k0, k1, k2, k3, k4]

/-- One more square, as Go counts it. -/
theorem tot_step {c r t : Int} {xs : List Nat} (hck : checkB c xs r t = true) (hok : okF xs) {k z : Nat} (hk : k < 100) (hz : totC c xs r t k = some z) : ∃ s z', floatBits .mul .f64 (getN c xs r t k c) (getN c xs r t k c) = some s ∧ floatBits .add .f64 z s = some z' ∧ totC c xs r t (k + 1) = some z' ∧ z' ≤ 9218868437227405312 := by
  obtain ⟨z', h1, h2⟩ := tot_ok hck hok (k + 1) (by omega)
  have he := (ent_ok hck hok k c).1
  have p := pr_fin (e := 1862 + (k + 1)) (by omega)
  refine ⟨sqN (getN c xs r t k c), z', (sq_ok he).1, ?_, h1, by omega⟩
  simp only [totC] at h1
  rw [hz] at h1
  unfold asqC at h1
  rw [cls_sq he] at h1
  exact h1

set_option maxRecDepth 100000 in
set_option maxHeartbeats 2000000 in
theorem rof_yes (c r t : Int) (sv : Value) (xs : List Nat) (w : World) (hF : Fls w sv xs) (hck : checkB c xs r t = true) (hr : c < r) : OfC 11 w c sv xs r t := by
  have S := st_ok hck hF.1 hr
  obtain ⟨y1, y2, y3, y4, y5, y6⟩ := st_yes (stE_yes hck hr)
  unfold OfC
  rw [y1, y2, y3, y4, y5, stE_yes hck hr]
  clear y1 y2 y3 y4 y5 y6
  obtain ⟨n, rfl, hn1, hn6, hlen⟩ := check_len hck
  have htt := check_turns hck
  have HCK : Hid (checkB n xs r t = true) := hck
  clear hck hlen
  obtain ⟨a, cap, rfl, hcap⟩ := hF.shape
  obtain ⟨R, HR⟩ : ∃ R, Hid (restN n xs r t = R) := ⟨_, rfl⟩
  obtain ⟨T, HT⟩ : ∃ T, Hid (totN n xs r t = T) := ⟨_, rfl⟩
  obtain ⟨V, HV⟩ : ∃ V, Hid (varN n xs r t = V) := ⟨_, rfl⟩
  obtain ⟨I, HI⟩ : ∃ I, Hid (fitN n xs r t = I) := ⟨_, rfl⟩
  rw [HR.out, HT.out, HV.out, HI.out]
  have hB : Below w.heap.size w ((w.alloc (fcells n (.slice a xs.length cap) r t)).alloc (scells 0 0 0 0 0)) := ((Below.refl _ w).alloc (Nat.le_refl _) _).alloc (by simp) _
  have X : FBox ((w.alloc (fcells n (.slice a xs.length cap) r t)).alloc (scells 0 0 0 0 0)) w.heap.size n (.slice a xs.length cap) r t := (FBox.new w n (.slice a xs.length cap) r t).below ((Below.refl _ _).alloc (Nat.le_refl _) _) (Nat.le_refl _)
  have Y : SBox ((w.alloc (fcells n (.slice a xs.length cap) r t)).alloc (scells 0 0 0 0 0)) (w.heap.size + 1) 0 0 0 0 0 := by
    have h := SBox.new (w.alloc (fcells n (.slice a xs.length cap) r t)) 0 0 0 0 0
    rw [World.size_alloc] at h
    exact h
  have hr' : ¬ r ≤ (n : Int) := by omega
  have hdec : decide (r ≤ (n : Int)) = false := decide_eq_false hr'
  go_enter Tryd.func11, Tryd.ntmps11
  go_wp2_with fail
  refine (rcheck_c n r t _ xs _ (hF.below hB (Nat.le_refl _))).mono ?_
  rw [HCK.out]
  rintro e w1 ⟨rfl, hb1⟩
  have X1 := X.below hb1 (Nat.le_refl _)
  have Y1 := Y.below hb1 Y.lt
  have B1 := hB.trans (hb1.mono hB.size)
  have c0 := X1.c0
  have c1 := X1.c1
  have c2 := X1.c2
  have c3 := X1.c3
  clear hb1 X Y hB
  have hsq : ∀ w : World, (binOp .mul 26 (fl (getN n xs r t n n)) (fl (getN n xs r t n n))).run Tryd.prog w = .ok (fl R) w := fun w => run_float_arith w .mul _ _ _ _ _ (by rw [← HR.out]; exact S.sq)
  obtain ⟨rho, HRHO⟩ : ∃ x, Hid (getN n xs r t n n = x) := ⟨_, rfl⟩
  rw [HRHO.out] at hsq
  go_wp2_with fail
  refine (N.rget_c n r t n n _ xs _ (hF.below B1 (Nat.le_refl _))).mono ?_
  rw [HRHO.out]
  rintro e w2 ⟨rfl, hb2⟩
  have X2 := X1.below hb2 (Nat.le_refl _)
  have Y2 := Y1.below hb2 Y1.lt
  have B2 := B1.trans (hb2.mono B1.size)
  clear hb2 X1 Y1 B1 c0 c1 c2 c3
  have c0 := X2.c0
  have c1 := X2.c1
  have c2 := X2.c2
  have c3 := X2.c3
  go_wp2_with fail
  have hQ : w.heap.size + 1 < w2.heap.size := Y2.lt
  have ba := (Below.refl w2.heap.size w2).alloc (Nat.le_refl _) (scells (r - n) R 0 0 0)
  have M : Rm w (w2.alloc (scells (r - n) R 0 0 0)) w2.heap.size n (.slice a xs.length cap) r t (r - n) R (totC n xs r t 0) := ⟨B2.trans (ba.mono B2.size), X2.below ba (Nat.le_refl _), Y2.below ba Y2.lt, 0, rfl, by decide, SBox.new w2 _ _ _ _ _⟩
  clear ba X2 Y2 B2 c0 c1 c2 c3 hsq
  generalize w2.heap.size = Q at *
  go_loopw [6] (fun i wr => ∃ k : Nat, k ≤ n + 1 ∧ i = .int .i64 (k : Int) ∧ Rm w wr Q n (.slice a xs.length cap) r t (r - n) R (totC n xs r t k)) (fun i _ => n + 1 - (intOf i).toNat)
  case atStart => exact ⟨0, Nat.zero_le _, by simp, M⟩
  case round =>
    clear M
    obtain ⟨k, hk, rfl, M⟩ := hrel
    obtain ⟨z, hz, hzl, Z⟩ := M.bs
    have HZ : Hid (totC n xs r t k = some z) := hz
    clear hz
    have c0 := M.bf.c0
    have c1 := M.bf.c1
    have c2 := M.bf.c2
    have c3 := M.bf.c3
    by_cases hlt : k < n + 1
    · have hlt' : (k : Int) ≤ (n : Int) := by omega
      obtain ⟨sq, z', m1, m2, m3, m4⟩ := tot_step HCK.out hF.1 (by omega) HZ.out
      have HZ3 : Hid (totC n xs r t (k + 1) = some z') := m3
      obtain ⟨x, HX⟩ : ∃ x, Hid (getN n xs r t k n = x) := ⟨_, rfl⟩
      rw [HX.out] at m1
      have hm : ∀ w : World, (binOp .mul 26 (fl x) (fl x)).run Tryd.prog w = .ok (fl sq) w := fun w => run_float_arith w .mul _ _ _ _ _ m1
      have ha : ∀ w : World, (binOp .add 26 (fl z) (fl sq)).run Tryd.prog w = .ok (fl z') w := fun w => run_float_arith w .add _ _ _ _ _ m2
      clear m1 m2 m3
      go_wp2_with fail
      refine (N.rget_c n r t k n _ xs _ (hF.below M.be (Nat.le_refl _))).mono ?_
      rw [HX.out]
      rintro e w3 ⟨rfl, hb3⟩
      have Z3 := Z.below hb3 Z.lt
      have z2 := Z3.c2
      have f2 := Z3.fz 2
      have M3 : Rm w (w3.setCell ⟨Q, 2, none⟩ (fl z')) Q n (.slice a xs.length cap) r t (r - n) R (totC n xs r t (k + 1)) :=
        ⟨(M.be.trans (hb3.mono M.be.size)).setCell (p := ⟨Q, 2, none⟩) (by show w.heap.size ≤ Q; omega) _, (M.bf.below hb3 (Nat.le_refl _)).other ⟨Q, 2, none⟩ _ (by simp; omega), (M.br.below hb3 M.br.lt).other ⟨Q, 2, none⟩ _ (by simp; omega), z', HZ3.out, m4, Z3.set2 z'⟩
      clear c0 c1 c2 c3 M Z hb3 HZ HZ3
      go_wp2_with fail
      go_roundw
      case rel => exact ⟨k + 1, by omega, by go_num, M3⟩
      case measure => simp [intOf]; omega
    · have hkn : k = n + 1 := by omega
      have hlt' : ¬ (k : Int) ≤ (n : Int) := by omega
      have hdec2 : decide ((k : Int) ≤ (n : Int)) = false := decide_eq_false hlt'
      obtain rfl : z = T := by
        have h := S.tot
        have h' := HZ.out
        rw [hkn] at h'
        rw [Int.toNat_natCast, h', HT.out] at h
        exact Option.some.inj h
      clear hkn hlt HZ
      have hdv := S.div
      rw [HR.out, HV.out] at hdv
      have hq : ∀ w : World, (binOp .quo 26 (fl R) (fl (floatOfInt .f64 (r - n)))).run Tryd.prog w = .ok (fl V) w := fun w => run_float_arith w .quo _ _ _ _ _ hdv
      have hcv : ∀ w : World, (convert 3 26 (.int .i64 (r - n))).run Tryd.prog w = .ok (fl (floatOfInt .f64 (r - n))) w := fun w => run_convert_int_float w 3 26 .i64 .f64 (r - n) (by kernel_rfl) Tryd.underlying26
      have z0 := Z.c0
      have z1 := Z.c1
      have z2 := Z.c2
      have z3 := Z.c3
      have f3 := Z.fz 3
      have Z3 := Z.set3 V
      have R3 := M.br.other ⟨Q, 3, none⟩ (fl V) (by simp; omega)
      have B3 := M.be.setCell (p := ⟨Q, 3, none⟩) (by show w.heap.size ≤ Q; omega) (fl V)
      have u0 := Z3.c0
      have u1 := Z3.c1
      have u2 := Z3.c2
      have u3 := Z3.c3
      have u4 := Z3.c4
      have hzz := eq_zero hzl
      by_cases h0 : z = 0
      · rw [decide_eq_true h0] at hzz
        have hzn : (FloatKind.f64.format.order z 0 != some .eq) = false := by rw [bne, hzz]; rfl
        have HI0 : Hid (I = 0) := by show _ = _; rw [← HI.out]; exact S.fit0 (HT.out.trans h0)
        have r0 := R3.c0
        have r1 := R3.c1
        have r2 := R3.c2
        have r3 := R3.c3
        have r4 := R3.c4
        have q0 := R3.fz 0
        have q1 := R3.fz 1
        have q2 := R3.fz 2
        have q3 := R3.fz 3
        have q4 := R3.fz 4
        have Z5 := R3.put (r - n) R z V 0
        have B5 := putS_below B3 (B := w.heap.size + 1) (by omega) (r - n) R z V 0
        unfold putS at Z5 B5
        clear h0 hdv S M Z
        go_wp2_with fail
        exact bodyPost_ret_by (v := .tuple #[stv (r - n) R z V 0, .int .i64 0]) (rof_results Z5 rfl rfl) rfl ⟨by rw [HI0.out], B5⟩
      · rw [decide_eq_false h0] at hzz
        have hzn : (FloatKind.f64.format.order z 0 != some .eq) = true := by rw [bne, hzz]; rfl
        obtain ⟨q, d1, d2⟩ := S.fit1 (by rw [HT.out]; omega)
        rw [HR.out, HT.out] at d1
        rw [HI.out] at d2
        have h1 : ∀ w : World, (binOp .quo 26 (fl R) (fl z)).run Tryd.prog w = .ok (fl q) w := fun w => run_float_arith w .quo _ _ _ _ _ d1
        have h2 : ∀ w : World, (binOp .sub 26 (fl 4607182418800017408) (fl q)).run Tryd.prog w = .ok (fl I) w := fun w => run_float_arith w .sub _ _ _ _ _ d2
        have f4 := Z3.fz 4
        have Z4 := Z3.set4 I
        have R4 := R3.other ⟨Q, 4, none⟩ (fl I) (by simp; omega)
        have B4 := B3.setCell (p := ⟨Q, 4, none⟩) (by show w.heap.size ≤ Q; omega) (fl I)
        have v0 := Z4.c0
        have v1 := Z4.c1
        have v2 := Z4.c2
        have v3 := Z4.c3
        have v4 := Z4.c4
        have r0 := R4.c0
        have r1 := R4.c1
        have r2 := R4.c2
        have r3 := R4.c3
        have r4 := R4.c4
        have q0 := R4.fz 0
        have q1 := R4.fz 1
        have q2 := R4.fz 2
        have q3 := R4.fz 3
        have q4 := R4.fz 4
        have Z5 := R4.put (r - n) R z V I
        have B5 := putS_below B4 (B := w.heap.size + 1) (by omega) (r - n) R z V I
        unfold putS at Z5 B5
        clear h0 hdv S M Z d1 d2
        go_wp2_with fail
        exact bodyPost_ret_by (v := .tuple #[stv (r - n) R z V I, .int .i64 0]) (rof_results Z5 rfl rfl) rfl ⟨rfl, B5⟩
end Go.Proofs.YtbkmpoeaindnaaaDoor
