/- levellingref01.Split at a finite float; levellingref02.From; levellingref03.From; levellingref04.Pow, .Times. -/
import Derived.Test.YtbkmpoeaindnaaaDoorDyOne
import Derived.Test.YtbkmpoeaindnaaaDoorMayB
import Derived.Test.YtbkmpoeaindnaaaDoorRefSplit
namespace Go.Proofs.YtbkmpoeaindnaaaDoor.N
open Go.RowKit Go.Shelf Rnd

/-- What a finite float's parts come to. -/
def Parts (x m : Nat) (e : Int) : Prop := m < 9007199254740992 ∧ -1074 ≤ e ∧ e ≤ 971 ∧ m * 2 ^ (e - (-1074)).toNat = uv (x % 2 ^ 63)

set_option maxRecDepth 100000 in
set_option maxHeartbeats 1000000 in
theorem splitF_c (x : Nat) (hx : x < 18446744073709551616) (hf : x % 2 ^ 63 < Ieee.double.infRung) (w : World) :
    Calls Tryd.prog 36 #[fl x] w fun e w' => (∃ (m : Nat) (ex kd : Int), e = .returned (.tuple #[.bool (sg x), .int .u64 (m : Int), .int .i64 ex, .int .i64 kd]) ∧ kd ≤ 1 ∧ Parts x m ex) ∧ w' = w := by
  have hb := run_bits
  rw [inf_eq] at hf
  obtain ⟨F, HF⟩ : ∃ F, Hid (x / 4503599627370496 % 2048 = F) := ⟨_, rfl⟩
  obtain ⟨M, HM⟩ : ∃ M, Hid (x % 4503599627370496 = M) := ⟨_, rfl⟩
  have h1 := u64_field x hx
  have h2 := u64_mant x hx
  rw [HF.out] at h1
  rw [HM.out] at h2
  have hF : F < 2047 := by rw [← HF.out]; omega
  have hM : M < 4503599627370496 := by rw [← HM.out]; exact Nat.mod_lt _ (by decide)
  have HS : Hid (((x : Int) / 9223372036854775808 == 1) = sg x) := by
    show _ = decide _
    by_cases h : 9223372036854775808 ≤ x
    · rw [decide_eq_true h]; simp; omega
    · rw [decide_eq_false h]; simp; omega
  have hr : x % 2 ^ 63 = F * 4503599627370496 + M := by rw [← HF.out, ← HM.out]; omega
  have c1' : ((F : Int) == 2047) = false := by simp; omega
  by_cases c3 : F = 0
  · subst c3
    by_cases c2 : M = 0
    · subst c2
      have HP : Hid (Parts x 0 0) := by
        refine ⟨by decide, by decide, by decide, ?_⟩
        rw [hr, Nat.zero_mul]
        rfl
      clear hr
      go_enter Tryd.func36, Tryd.ntmps36
      go_wp2
      exact bodyPost_ret_by (results4 rfl _ _ _) rfl ⟨⟨0, 0, 0, by rw [← HS.out]; rfl, by decide, HP.out⟩, rfl⟩
    · have c2' : ((M : Int) == 0) = false := by simp [c2]
      have HP : Hid (Parts x M (-1074)) := by
        refine ⟨by omega, by decide, by decide, ?_⟩
        rw [hr, Nat.zero_mul, Nat.zero_add, uv_small (by omega)]
        simp
      clear hr
      go_enter Tryd.func36, Tryd.ntmps36
      go_wp2
      exact bodyPost_ret_by (results4 rfl _ _ _) rfl ⟨⟨M, -1074, 1, by rw [← HS.out]; rfl, by decide, HP.out⟩, rfl⟩
  · have c3' : ((F : Int) == 0) = false := by simp [c3]
    have HP : Hid (Parts x (M + 4503599627370496) ((F : Int) - 1075)) := by
      refine ⟨by omega, by omega, by omega, ?_⟩
      obtain ⟨f, rfl⟩ : ∃ f, F = f + 1 := ⟨F - 1, by omega⟩
      have e1 : (((f + 1 : Nat) : Int) - 1075 - (-1074)).toNat = f := by omega
      have e2 : (4503599627370496 : Nat) = 2 ^ 52 := by decide
      rw [hr, e1, e2, uv_great (by omega), Nat.add_comm]
    clear hr
    go_enter Tryd.func36, Tryd.ntmps36
    go_wp2
    exact bodyPost_ret_by (results4 rfl _ _ _) rfl ⟨⟨M + 4503599627370496, (F : Int) - 1075, 1, by rw [← HS.out]; simp, by decide, HP.out⟩, rfl⟩

theorem digs_pair (w : World) (a b : Nat) (ha : a < 4294967296) (hb : b < 4294967296) : Digs (w.alloc (.cells #[.int .u32 (a : Int), .int .u32 (b : Int)] 98)) (.slice (some ⟨w.heap.size, 0, none⟩) 2 2) [a, b] := by
  refine ⟨small_cons.2 ⟨ha, small_cons.2 ⟨hb, small_nil⟩⟩, by simp, .inr ⟨w.heap.size, 0, 2, rfl, by simp, fun j hj => ?_⟩⟩
  simp only [List.length_cons, List.length_nil] at hj
  have : j = 0 ∨ j = 1 := by omega
  rcases this with rfl | rfl
  · exact Go.Proofs.YtbkmpoeaindnaaaDoor.cell_new w _ _ 0 _ rfl
  · exact Go.Proofs.YtbkmpoeaindnaaaDoor.cell_new w _ _ 1 _ rfl

set_option maxRecDepth 100000 in
set_option maxHeartbeats 1000000 in
theorem rfrom_c (x : Nat) (hx : x < 18446744073709551616) (w : World) : Calls Tryd.prog 47 #[.int .u64 (x : Int)] w fun e w' => (∃ v, e = .returned v ∧ Res w' v x) ∧ Below w.heap.size w w' := by
  have HV := val_pair x hx
  obtain ⟨a, Ha⟩ : ∃ a, Hid (x % 4294967296 = a) := ⟨_, rfl⟩
  rw [Nat.mod_eq_of_lt (show x / 4294967296 < 4294967296 by omega)] at HV
  obtain ⟨b, Hb⟩ : ∃ b, Hid (x / 4294967296 = b) := ⟨_, rfl⟩
  rw [Ha.out, Hb.out] at HV
  have ha : a < 4294967296 := by rw [← Ha.out]; exact Nat.mod_lt _ (by decide)
  have hb : b < 4294967296 := by rw [← Hb.out]; omega
  have e1 : (x : Int) % 4294967296 = (a : Int) := by rw [← Ha.out]; omega
  have e2 : (x : Int) / 4294967296 = (b : Int) := by rw [← Hb.out]; omega
  have HV' : Hid (val [a, b] = x) := HV
  have hB : Below w.heap.size w (w.alloc (.cells #[.int .u32 (a : Int), .int .u32 (b : Int)] 98)) := (Below.refl _ w).alloc (Nat.le_refl _) _
  have h2 := digs_pair w a b ha hb
  clear HV
  go_enter Tryd.func47, Tryd.ntmps47
  go_wp2_with fail
  refine (rtrim_c _ [a, b] _ h2).mono ?_
  rintro e w1 ⟨⟨v, rfl, hD⟩, hb1⟩
  go_wp2
  go_ret
  exact ⟨⟨v, rfl, trimL [a, b], hD, norm_trimL _, by rw [val_trimL]; exact HV'.out⟩, hB.trans (hb1.mono hB.size)⟩

theorem parts_big {x m : Nat} {e : Int} (h : Parts x m e) : m * 2 ^ (e - (-1074)).toNat < BIG := by
  obtain ⟨h1, h2, h3, _⟩ := h
  rw [big_eq]
  have a : m * 2 ^ (e - (-1074)).toNat < 2 ^ 53 * 2 ^ (e - (-1074)).toNat := Nat.mul_lt_mul_of_pos_right (by omega) (pow_pos2 _)
  rw [← Nat.pow_add] at a
  refine Nat.lt_of_lt_of_le a (Nat.pow_le_pow_right (by omega) ?_)
  have := bigK_eq
  omega
theorem sgn_sv {x : Nat} (hx : x < 18446744073709551616) : sgn (sg x) (uv (x % 2 ^ 63)) = sv x := by
  unfold sgn sv sg
  by_cases h : 9223372036854775808 ≤ x
  · rw [decide_eq_true h, if_pos rfl, if_pos (by omega)]
  · rw [decide_eq_false h, if_neg (by simp), if_neg (by omega)]

/-- A call answers a dyad of such a number, and true. -/
def DyT (e : Ending) (W : World) (z g : Int) : Prop := ∃ neg nv ex, e = .returned (.tuple #[dyv neg nv ex, .bool true]) ∧ Dy W neg nv ex z g

theorem dyt_results {fn : Func} {p u : Tmp} (hfn : fn.results = #[.cell p 46, .tmp u]) {W : World} {B : Nat} {neg : Bool} {nv : Value} {e : Int} (h : DBox W B neg nv e) {tmps : Array Value} (h4 : tmps.getD p undef = .pointer (some ⟨B, 0, none⟩)) {b : Bool} (h5 : tmps.getD u undef = .bool b) :
    (results fn tmps).run Tryd.prog W = .ok (.tuple #[dyv neg nv e, .bool b]) W := by
  have k0 := h.c0
  have k1 := h.c1
  have k2 := h.c2
  rw [results_cell_tmp hfn, h4, h5]
  simp [go_sem, k0, k1, k2]

set_option maxRecDepth 100000 in
set_option maxHeartbeats 2000000 in
theorem rdfrom_c (x : Nat) (hx : x < 18446744073709551616) (hf : x % 2 ^ 63 < Ieee.double.infRung) (w : World) :
    Calls Tryd.prog 21 #[fl x] w fun r w' => DyT r w' (sv x) (-1074) ∧ Below w.heap.size w w' := by
  have hB : Below w.heap.size w (w.alloc (dcells false (.slice none 0 0) 0)) := (Below.refl _ w).alloc (Nat.le_refl _) _
  have R0 := DBox.new w false (.slice none 0 0) 0
  go_enter Tryd.func21, Tryd.ntmps21
  go_wp2_with fail
  refine (splitF_c x hx hf _).mono ?_
  rintro r w1 ⟨⟨m, ex, kd, rfl, hkd, hP⟩, rfl⟩
  have hm : m < 18446744073709551616 := by have := hP.1; omega
  have hk1 : ¬ (1 : Int) < kd := by omega
  have hbig := parts_big hP
  have he : -1074 ≤ ex := hP.2.1
  have HV : Hid (sgn (sg x) (m * 2 ^ (ex - (-1074)).toNat) = sv x) := by show _ = _; rw [hP.2.2.2, sgn_sv hx]
  clear hP
  go_wp2_with fail
  refine (rfrom_c m hm _).mono ?_
  rintro r w2 ⟨⟨v2, rfl, C, c1, c2, c3⟩, hb⟩
  have R2 := R0.below hb R0.lt
  have B2 := hB.trans (hb.mono hB.size)
  have kN := rnorm_c (sg x) v2 C ex (-1074) w2 c1 (by decide) (by decide) he (by rw [c3]; exact hbig)
  rw [c3, HV.out] at kN
  clear hb hbig R0
  go_wp2_with fail
  refine kN.mono ?_
  rintro r w6 ⟨⟨n6, v6, x6, rfl, hR6⟩, hb6⟩
  have R6 := R2.below hb6 R2.lt
  have B6 := B2.trans (hb6.mono B2.size)
  obtain ⟨a6, l6, c6, rfl⟩ := hR6.shape
  have q0 := R6.c0
  have q1 := R6.c1
  have q2 := R6.c2
  have t0 := R6.fz 0
  have t1 := R6.fz 1
  have t2 := R6.fz 2
  have p7 := R6.put n6 (.slice a6 l6 c6) x6
  have hR7 := hR6.keep R6 (fun _ hn => putD_blk w6 hn n6 (.slice a6 l6 c6) x6)
  have hB7 := putD_below B6 (B := w.heap.size) (Nat.le_refl _) n6 (.slice a6 l6 c6) x6
  unfold putD at p7 hR7 hB7
  clear kN
  go_wp2_with fail
  exact bodyPost_ret_by (v := .tuple #[dyv n6 (.slice a6 l6 c6) x6, .bool true]) (dyt_results rfl p7 rfl rfl) rfl ⟨⟨n6, _, x6, rfl, hR7⟩, hB7⟩

set_option maxRecDepth 100000 in
set_option maxHeartbeats 2000000 in
theorem rpow4_c (k g : Int) (w : World) (hg0 : g ≤ 0) (hg : -20000 ≤ g) (hk : g ≤ k) (hz : 2 ^ (k - g).toNat < BIG) :
    Calls Tryd.prog 25 #[.int .i64 k] w fun r w' => DyR r w' ((2 ^ (k - g).toNat : Nat) : Int) g ∧ Below w.heap.size w w' := by
  have hB : Below w.heap.size w (w.alloc (dcells false (.slice none 0 0) 0)) := (Below.refl _ w).alloc (Nat.le_refl _) _
  have R0 := DBox.new w false (.slice none 0 0) 0
  have HZ : Hid (1 * 2 ^ (k - g).toNat < BIG) := by show _ < _; rw [Nat.one_mul]; exact hz
  have HV : Hid (sgn false (1 * 2 ^ (k - g).toNat) = ((2 ^ (k - g).toNat : Nat) : Int)) := by show _ = _; rw [Nat.one_mul]; rfl
  clear hz
  generalize ((2 ^ (k - g).toNat : Nat) : Int) = Z at *
  go_enter Tryd.func25, Tryd.ntmps25
  go_wp2_with fail
  refine (rfrom_one _).mono ?_
  rintro r w2 ⟨⟨v2, rfl, C, c1, c2, c3⟩, hb⟩
  have R2 := R0.below hb R0.lt
  have B2 := hB.trans (hb.mono hB.size)
  have kN := rnorm_c false v2 C k g w2 c1 hg0 hg hk (by rw [c3]; exact HZ.out)
  rw [c3, HV.out] at kN
  clear hb R0
  go_wp2_with fail
  refine kN.mono ?_
  rintro r w6 ⟨⟨n6, v6, x6, rfl, hR6⟩, hb6⟩
  have R6 := R2.below hb6 R2.lt
  have B6 := B2.trans (hb6.mono B2.size)
  obtain ⟨a6, l6, c6, rfl⟩ := hR6.shape
  have q0 := R6.c0
  have q1 := R6.c1
  have q2 := R6.c2
  have t0 := R6.fz 0
  have t1 := R6.fz 1
  have t2 := R6.fz 2
  have p7 := R6.put n6 (.slice a6 l6 c6) x6
  have hR7 := hR6.keep R6 (fun _ hn => putD_blk w6 hn n6 (.slice a6 l6 c6) x6)
  have hB7 := putD_below B6 (B := w.heap.size) (Nat.le_refl _) n6 (.slice a6 l6 c6) x6
  unfold putD at p7 hR7 hB7
  clear kN
  go_wp2_with fail
  exact bodyPost_ret_by (v := dyv n6 (.slice a6 l6 c6) x6) (dy_results rfl p7 rfl) rfl ⟨⟨n6, _, x6, rfl, hR7⟩, hB7⟩
end Go.Proofs.YtbkmpoeaindnaaaDoor.N

/- levellingref04.Times. -/
namespace Go.Proofs.YtbkmpoeaindnaaaDoor.N
open Go.RowKit Go.Shelf Rnd

set_option maxRecDepth 100000 in
set_option maxHeartbeats 8000000 in
theorem rtimes_c (n1 : Bool) (v1 : Value) (e1 z g : Int) (k : Nat) (w : World) (h1 : Dy w n1 v1 e1 z g) (hk : k ≤ 1000000000) (hg0 : g ≤ 0) (hg : -20000 ≤ g) (hz1 : z.natAbs < BIG) (hz : (z * (k : Int)).natAbs < BIG) :
    Calls Tryd.prog 24 #[dyv n1 v1 e1, .int .i64 (k : Int)] w fun r w' => DyR r w' (z * (k : Int)) g ∧ Below w.heap.size w w' := by
  have hB : Below w.heap.size w ((w.alloc (dcells n1 v1 e1)).alloc (dcells false (.slice none 0 0) 0)) := ((Below.refl _ w).alloc (Nat.le_refl _) _).alloc (by simp) _
  have A0 : DBox ((w.alloc (dcells n1 v1 e1)).alloc (dcells false (.slice none 0 0) 0)) w.heap.size n1 v1 e1 := (DBox.new w _ _ _).below ((Below.refl _ _).alloc (Nat.le_refl _) _) (by simp)
  have R0 : DBox ((w.alloc (dcells n1 v1 e1)).alloc (dcells false (.slice none 0 0) 0)) (w.heap.size + 1) false (.slice none 0 0) 0 := by
    have h := DBox.new (w.alloc (dcells n1 v1 e1)) false (.slice none 0 0) 0
    rw [World.size_alloc] at h; exact h
  obtain ⟨aa, la, ca, rfl⟩ := h1.shape
  have hkb : k < BIG := by
    rw [big_eq]
    refine Nat.lt_of_le_of_lt hk ?_
    refine Nat.lt_of_lt_of_le (show 1000000000 < 2 ^ 32 by decide) (Nat.pow_le_pow_right (by omega) ?_)
    have := bigK_eq
    omega
  go_enter Tryd.func24, Tryd.ntmps24
  go_wp2_with fail
  generalize (w.alloc (dcells n1 (.slice aa la ca) e1)).alloc (dcells false (.slice none 0 0) 0) = V at *
  have bD : Below V.heap.size V V.drew := (Below.refl _ _).drew
  have hu : IntKind.u64.wrap (k : Int) = (k : Int) := by rw [IntKind.wrap_u64]; omega
  have hmx : max (0 : Int) (k : Int) = (k : Int) := by omega
  have hk0 : (0 : Int) ≤ (k : Int) := by omega
  have kF := rfrom_c k (by omega) V.drew
  have kN : ∀ w' v, Below V.heap.size V w' → Res w' v k → Calls Tryd.prog 46 #[.bool false, v, .int .i64 0] w' fun r w'' => DyR r w'' (k : Int) 0 ∧ Below V.heap.size V w'' := by
    rintro w' v hb ⟨C, c1, c2, c3⟩
    have h := rnorm_c false v C 0 0 w' c1 (by decide) (by decide) (by decide) (by rw [c3]; simpa using hkb)
    rw [c3] at h
    have e : sgn false (k * 2 ^ ((0 : Int) - 0).toNat) = (k : Int) := by simp [sgn]
    rw [e] at h
    exact h.mono fun r w'' ⟨k1, k2⟩ => ⟨k1, hb.trans (k2.mono hb.size)⟩
  have kM : ∀ w' n v e, Below V.heap.size V w' → Dy w' n v e (k : Int) 0 → Calls Tryd.prog 23 #[dyv n1 (.slice aa la ca) e1, dyv n v e] w' fun r w'' => DyR r w'' (z * (k : Int)) g ∧ Below V.heap.size V w'' := by
    intro w' n v e hb hd
    have hb2 := hB.trans (hb.mono hB.size)
    have h := rdmul_c n1 n _ v e1 e z (k : Int) g 0 w' (h1.below hb2 (Nat.le_refl _)) hd hg0 (by decide) (by omega) hz1 (by rw [Int.natAbs_natCast]; exact hkb) hz
    rw [Int.add_zero] at h
    exact h.mono fun r w'' ⟨k1, k2⟩ => ⟨k1, hb.trans (k2.mono hb.size)⟩
  have mk : ∀ w', Below V.heap.size V w' → (w'.cell? ⟨w.heap.size, 0, none⟩ = some (.bool n1) ∧ w'.cell? ⟨w.heap.size, 1, none⟩ = some (.slice aa la ca) ∧ w'.cell? ⟨w.heap.size, 2, none⟩ = some (.int .i64 e1)) := fun w' hw => by
    have p := A0.below hw A0.lt
    exact ⟨p.c0, p.c1, p.c2⟩
  have mk2 : ∀ w' n v e, Below V.heap.size V w' → (fun w' : World => w'.cell? ⟨w.heap.size, 0, none⟩ = some (.bool n1) ∧ w'.cell? ⟨w.heap.size, 1, none⟩ = some (.slice aa la ca) ∧ w'.cell? ⟨w.heap.size, 2, none⟩ = some (.int .i64 e1)) (((w'.setCell ⟨w.heap.size + 1, 0, none⟩ (.bool n)).setCell ⟨w.heap.size + 1, 1, none⟩ v).setCell ⟨w.heap.size + 1, 2, none⟩ (.int .i64 e)) := fun w' n v e hw => by
    have p := (A0.below hw A0.lt).putO (B := w.heap.size + 1) (by omega) n v e
    unfold putD at p
    exact ⟨p.c0, p.c1, p.c2⟩
  go_region_held3 (fun w' => w'.cell? ⟨w.heap.size, 0, none⟩ = some (.bool n1) ∧ w'.cell? ⟨w.heap.size, 1, none⟩ = some (.slice aa la ca) ∧ w'.cell? ⟨w.heap.size, 2, none⟩ = some (.int .i64 e1)) (first | exact mk _ (by assumption) | exact mk2 _ _ _ _ (by assumption))
    ((first | (go_at_call 47; refine kF.mono ?_; rintro r w3 ⟨⟨v3, rfl, hR3⟩, hb3'⟩; have hb3 : Below V.heap.size V w3 := bD.trans hb3') | (go_at_call 46; refine (kN w3 v3 hb3 hR3).mono ?_; rintro r w4 ⟨⟨n4, v4, x4, rfl, hR4⟩, hb4⟩) | (go_at_call 23; refine (kM w4 n4 v4 x4 hb4 hR4).mono ?_; rintro r w6 ⟨⟨n6, v6, x6, rfl, hR6⟩, hb6⟩; obtain ⟨a6, l6, c6, rfl⟩ := hR6.shape; have p6 := R0.below hb6 R0.lt; have q0 := p6.c0; have q1 := p6.c1; have q2 := p6.c2; have t0 := p6.fz 0; have t1 := p6.fz 1; have t2 := p6.fz 2)))
  have p7 := p6.put n6 (.slice a6 l6 c6) x6
  have hR7 := hR6.keep p6 (fun _ hn => putD_blk w6 hn n6 (.slice a6 l6 c6) x6)
  have hB7 := putD_below (hB.trans (hb6.mono hB.size)) (B := w.heap.size + 1) (by omega) n6 (.slice a6 l6 c6) x6
  unfold putD at p7 hR7 hB7
  go_wp2_with fail
  exact bodyPost_ret_by (v := dyv n6 (.slice a6 l6 c6) x6) (dy_results rfl p7 rfl) rfl ⟨⟨n6, _, x6, rfl, hR7⟩, hB7⟩
end Go.Proofs.YtbkmpoeaindnaaaDoor.N
