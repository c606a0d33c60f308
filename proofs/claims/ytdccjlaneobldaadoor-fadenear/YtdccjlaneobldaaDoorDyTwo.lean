/- levellingref01.Split at a finite float; levellingref02.From; levellingref03.From; levellingref04.Pow, .Times. -/
import Derived.Test.YtdccjlaneobldaaDoorDyOne
import Derived.Test.YtdccjlaneobldaaDoorMayB
import Derived.Test.YtdccjlaneobldaaDoorRefSplit
import Derived.Test.YtdccjlaneobldaaDoorFlo
namespace Go.Proofs.YtdccjlaneobldaaDoor.N
open Go.RowKit Go.Shelf Rnd

/-- What a finite float's parts come to. -/
def Parts (x m : Nat) (e : Int) : Prop := m < 9007199254740992 ∧ -1074 ≤ e ∧ e ≤ 971 ∧ m * 2 ^ (e - (-1074)).toNat = uv (x % 2 ^ 63)

set_option maxRecDepth 100000 in
set_option maxHeartbeats 1000000 in
theorem splitF_c (x : Nat) (hx : x < 18446744073709551616) (hf : x % 2 ^ 63 < Ieee.double.infRung) (w : World) :
    Calls Tryd.prog 48 #[fl x] w fun e w' => (∃ (m : Nat) (ex kd : Int), e = .returned (.tuple #[.bool (sg x), .int .u64 (m : Int), .int .i64 ex, .int .i64 kd]) ∧ kd ≤ 1 ∧ Parts x m ex) ∧ w' = w := by
  have hb := run_bits
  rw [inf_eq] at hf
  obtain ⟨F, HF⟩ : ∃ F, Hid (x / 4503599627370496 % 2048 = F) := ⟨_, rfl⟩
  obtain ⟨M, HM⟩ : ∃ M, Hid (x % 4503599627370496 = M) := ⟨_, rfl⟩
  have h1 := u64_field x hx
  have h2 := u64_mant x hx
  rw [HF.out] at h1
  rw [HM.out] at h2
  have hF : F < 2047 := by rw [← HF.out]; omega
  have hM : M < 4503599627370496 := by rw [← HM.out]; exact Nat.mod_lt _ (by decide)
  have HS : Hid (((x : Int) / 9223372036854775808 == 1) = sg x) := by
    show _ = decide _
    by_cases h : 9223372036854775808 ≤ x
    · rw [decide_eq_true h]; simp; omega
    · rw [decide_eq_false h]; simp; omega
  have hr : x % 2 ^ 63 = F * 4503599627370496 + M := by rw [← HF.out, ← HM.out]; omega
  have c1' : ((F : Int) == 2047) = false := by simp; omega
  by_cases c3 : F = 0
  · subst c3
    by_cases c2 : M = 0
    · subst c2
      have HP : Hid (Parts x 0 0) := by
        refine ⟨by decide, by decide, by decide, ?_⟩
        rw [hr, Nat.zero_mul]
        rfl
      clear hr
      go_enter Tryd.func48, Tryd.ntmps48
      go_wp2
      exact bodyPost_ret_by (results4 rfl _ _ _) rfl ⟨⟨0, 0, 0, by rw [← HS.out]; rfl, by decide, HP.out⟩, rfl⟩
    · have c2' : ((M : Int) == 0) = false := by simp [c2]
      have HP : Hid (Parts x M (-1074)) := by
        refine ⟨by omega, by decide, by decide, ?_⟩
        rw [hr, Nat.zero_mul, Nat.zero_add, uv_small (by omega)]
        simp
      clear hr
      go_enter Tryd.func48, Tryd.ntmps48
      go_wp2
      exact bodyPost_ret_by (results4 rfl _ _ _) rfl ⟨⟨M, -1074, 1, by rw [← HS.out]; rfl, by decide, HP.out⟩, rfl⟩
  · have c3' : ((F : Int) == 0) = false := by simp [c3]
    have HP : Hid (Parts x (M + 4503599627370496) ((F : Int) - 1075)) := by
      refine ⟨by omega, by omega, by omega, ?_⟩
      obtain ⟨f, rfl⟩ : ∃ f, F = f + 1 := ⟨F - 1, by omega⟩
      have e1 : (((f + 1 : Nat) : Int) - 1075 - (-1074)).toNat = f := by omega
      have e2 : (4503599627370496 : Nat) = 2 ^ 52 := by decide
      rw [hr, e1, e2, uv_great (by omega), Nat.add_comm]
    clear hr
    go_enter Tryd.func48, Tryd.ntmps48
    go_wp2
    exact bodyPost_ret_by (results4 rfl _ _ _) rfl ⟨⟨M + 4503599627370496, (F : Int) - 1075, 1, by rw [← HS.out]; simp, by decide, HP.out⟩, rfl⟩

theorem digs_pair (w : World) (a b : Nat) (ha : a < 4294967296) (hb : b < 4294967296) : Digs (w.alloc (.cells #[.int .u32 (a : Int), .int .u32 (b : Int)] 98)) (.slice (some ⟨w.heap.size, 0, none⟩) 2 2) [a, b] := by
  refine ⟨small_cons.2 ⟨ha, small_cons.2 ⟨hb, small_nil⟩⟩, by simp, .inr ⟨w.heap.size, 0, 2, rfl, by simp, fun j hj => ?_⟩⟩
  simp only [List.length_cons, List.length_nil] at hj
  have : j = 0 ∨ j = 1 := by omega
  rcases this with rfl | rfl
  · exact Go.Proofs.YtdccjlaneobldaaDoor.cell_new w _ _ 0 _ rfl
  · exact Go.Proofs.YtdccjlaneobldaaDoor.cell_new w _ _ 1 _ rfl

set_option maxRecDepth 100000 in
set_option maxHeartbeats 1000000 in
theorem rfrom_c (x : Nat) (hx : x < 18446744073709551616) (w : World) : Calls Tryd.prog 58 #[.int .u64 (x : Int)] w fun e w' => (∃ v, e = .returned v ∧ Res w' v x) ∧ Below w.heap.size w w' := by
  have HV := val_pair x hx
  obtain ⟨a, Ha⟩ : ∃ a, Hid (x % 4294967296 = a) := ⟨_, rfl⟩
  rw [Nat.mod_eq_of_lt (show x / 4294967296 < 4294967296 by omega)] at HV
  obtain ⟨b, Hb⟩ : ∃ b, Hid (x / 4294967296 = b) := ⟨_, rfl⟩
  rw [Ha.out, Hb.out] at HV
  have ha : a < 4294967296 := by rw [← Ha.out]; exact Nat.mod_lt _ (by decide)
  have hb : b < 4294967296 := by rw [← Hb.out]; omega
  have e1 : (x : Int) % 4294967296 = (a : Int) := by rw [← Ha.out]; omega
  have e2 : (x : Int) / 4294967296 = (b : Int) := by rw [← Hb.out]; omega
  have HV' : Hid (val [a, b] = x) := HV
  have hB : Below w.heap.size w (w.alloc (.cells #[.int .u32 (a : Int), .int .u32 (b : Int)] 98)) := (Below.refl _ w).alloc (Nat.le_refl _) _
  have h2 := digs_pair w a b ha hb
  clear HV
  go_enter Tryd.func58, Tryd.ntmps58
  go_wp2_with fail
  refine (rtrim_c _ [a, b] _ h2).mono ?_
  rintro e w1 ⟨⟨v, rfl, hD⟩, hb1⟩
  go_wp2
  go_ret
  exact ⟨⟨v, rfl, trimL [a, b], hD, norm_trimL _, by rw [val_trimL]; exact HV'.out⟩, hB.trans (hb1.mono hB.size)⟩

theorem parts_big {x m : Nat} {e : Int} (h : Parts x m e) : m * 2 ^ (e - (-1074)).toNat < BIG := by
  obtain ⟨h1, h2, h3, _⟩ := h
  rw [big_eq]
  have a : m * 2 ^ (e - (-1074)).toNat < 2 ^ 53 * 2 ^ (e - (-1074)).toNat := Nat.mul_lt_mul_of_pos_right (by omega) (pow_pos2 _)
  rw [← Nat.pow_add] at a
  refine Nat.lt_of_lt_of_le a (Nat.pow_le_pow_right (by omega) ?_)
  have := bigK_eq
  omega
theorem sgn_sv {x : Nat} (hx : x < 18446744073709551616) : sgn (sg x) (uv (x % 2 ^ 63)) = sv x := by
  unfold sgn sv sg
  by_cases h : 9223372036854775808 ≤ x
  · rw [decide_eq_true h, if_pos rfl, if_pos (by omega)]
  · rw [decide_eq_false h, if_neg (by simp), if_neg (by omega)]

/-- A call answers a dyad of such a number, and true. -/
def DyT (e : Ending) (W : World) (z g : Int) : Prop := ∃ neg nv ex, e = .returned (.tuple #[dyv neg nv ex, .bool true]) ∧ Dy W neg nv ex z g

theorem dyt_results {fn : Func} {p u : Tmp} (hfn : fn.results = #[.cell p 60, .tmp u]) {W : World} {B : Nat} {neg : Bool} {nv : Value} {e : Int} (h : DBox W B neg nv e) {tmps : Array Value} (h4 : tmps.getD p undef = .pointer (some ⟨B, 0, none⟩)) {b : Bool} (h5 : tmps.getD u undef = .bool b) :
    (results fn tmps).run Tryd.prog W = .ok (.tuple #[dyv neg nv e, .bool b]) W := by
  have k0 := h.c0
  have k1 := h.c1
  have k2 := h.c2
  rw [results_cell_tmp hfn, h4, h5]
  simp [go_sem, k0, k1, k2]

set_option maxRecDepth 100000 in
set_option maxHeartbeats 2000000 in
theorem rdfrom_c (x : Nat) (hx : x < 18446744073709551616) (hf : x % 2 ^ 63 < Ieee.double.infRung) (w : World) :
    Calls Tryd.prog 38 #[fl x] w fun r w' => DyT r w' (sv x) (-1074) ∧ Below w.heap.size w w' := by
  have hB : Below w.heap.size w (w.alloc (dcells false (.slice none 0 0) 0)) := (Below.refl _ w).alloc (Nat.le_refl _) _
  have R0 := DBox.new w false (.slice none 0 0) 0
  go_enter Tryd.func38, Tryd.ntmps38
  go_wp2_with fail
  refine (splitF_c x hx hf _).mono ?_
  rintro r w1 ⟨⟨m, ex, kd, rfl, hkd, hP⟩, rfl⟩
  have hm : m < 18446744073709551616 := by have := hP.1; omega
  have hk1 : ¬ (1 : Int) < kd := by omega
  have hbig := parts_big hP
  have he : -1074 ≤ ex := hP.2.1
  have HV : Hid (sgn (sg x) (m * 2 ^ (ex - (-1074)).toNat) = sv x) := by show _ = _; rw [hP.2.2.2, sgn_sv hx]
  clear hP
  go_wp2_with fail
  refine (rfrom_c m hm _).mono ?_
  rintro r w2 ⟨⟨v2, rfl, C, c1, c2, c3⟩, hb⟩
  have R2 := R0.below hb R0.lt
  have B2 := hB.trans (hb.mono hB.size)
  have kN := rnorm_c (sg x) v2 C ex (-1074) w2 c1 (by decide) (by decide) he (by rw [c3]; exact hbig)
  rw [c3, HV.out] at kN
  clear hb hbig R0
  go_wp2_with fail
  refine kN.mono ?_
  rintro r w6 ⟨⟨n6, v6, x6, rfl, hR6⟩, hb6⟩
  have R6 := R2.below hb6 R2.lt
  have B6 := B2.trans (hb6.mono B2.size)
  obtain ⟨a6, l6, c6, rfl⟩ := hR6.shape
  have q0 := R6.c0
  have q1 := R6.c1
  have q2 := R6.c2
  have t0 := R6.fz 0
  have t1 := R6.fz 1
  have t2 := R6.fz 2
  have p7 := R6.put n6 (.slice a6 l6 c6) x6
  have hR7 := hR6.keep R6 (fun _ hn => putD_blk w6 hn n6 (.slice a6 l6 c6) x6)
  have hB7 := putD_below B6 (B := w.heap.size) (Nat.le_refl _) n6 (.slice a6 l6 c6) x6
  unfold putD at p7 hR7 hB7
  clear kN
  go_wp2_with fail
  exact bodyPost_ret_by (v := .tuple #[dyv n6 (.slice a6 l6 c6) x6, .bool true]) (dyt_results rfl p7 rfl rfl) rfl ⟨⟨n6, _, x6, rfl, hR7⟩, hB7⟩

set_option maxRecDepth 100000 in
set_option maxHeartbeats 2000000 in
theorem rpow4_c (k g : Int) (w : World) (hg0 : g ≤ 0) (hg : -20000 ≤ g) (hk : g ≤ k) (hz : 2 ^ (k - g).toNat < BIG) :
    Calls Tryd.prog 68 #[.int .i64 k] w fun r w' => DyR r w' ((2 ^ (k - g).toNat : Nat) : Int) g ∧ Below w.heap.size w w' := by
  have hB : Below w.heap.size w (w.alloc (dcells false (.slice none 0 0) 0)) := (Below.refl _ w).alloc (Nat.le_refl _) _
  have R0 := DBox.new w false (.slice none 0 0) 0
  have HZ : Hid (1 * 2 ^ (k - g).toNat < BIG) := by show _ < _; rw [Nat.one_mul]; exact hz
  have HV : Hid (sgn false (1 * 2 ^ (k - g).toNat) = ((2 ^ (k - g).toNat : Nat) : Int)) := by show _ = _; rw [Nat.one_mul]; rfl
  clear hz
  generalize ((2 ^ (k - g).toNat : Nat) : Int) = Z at *
  go_enter Tryd.func68, Tryd.ntmps68
  go_wp2_with fail
  refine (rfrom_one _).mono ?_
  rintro r w2 ⟨⟨v2, rfl, C, c1, c2, c3⟩, hb⟩
  have R2 := R0.below hb R0.lt
  have B2 := hB.trans (hb.mono hB.size)
  have kN := rnorm_c false v2 C k g w2 c1 hg0 hg hk (by rw [c3]; exact HZ.out)
  rw [c3, HV.out] at kN
  clear hb R0
  go_wp2_with fail
  refine kN.mono ?_
  rintro r w6 ⟨⟨n6, v6, x6, rfl, hR6⟩, hb6⟩
  have R6 := R2.below hb6 R2.lt
  have B6 := B2.trans (hb6.mono B2.size)
  obtain ⟨a6, l6, c6, rfl⟩ := hR6.shape
  have q0 := R6.c0
  have q1 := R6.c1
  have q2 := R6.c2
  have t0 := R6.fz 0
  have t1 := R6.fz 1
  have t2 := R6.fz 2
  have p7 := R6.put n6 (.slice a6 l6 c6) x6
  have hR7 := hR6.keep R6 (fun _ hn => putD_blk w6 hn n6 (.slice a6 l6 c6) x6)
  have hB7 := putD_below B6 (B := w.heap.size) (Nat.le_refl _) n6 (.slice a6 l6 c6) x6
  unfold putD at p7 hR7 hB7
  clear kN
  go_wp2_with fail
  exact bodyPost_ret_by (v := dyv n6 (.slice a6 l6 c6) x6) (dy_results rfl p7 rfl) rfl ⟨⟨n6, _, x6, rfl, hR7⟩, hB7⟩
end Go.Proofs.YtdccjlaneobldaaDoor.N

/- levellingref04.Times. -/
namespace Go.Proofs.YtdccjlaneobldaaDoor.N
open Go.RowKit Go.Shelf Rnd

set_option maxRecDepth 100000 in
set_option maxHeartbeats 8000000 in
theorem rtimes_c (n1 : Bool) (v1 : Value) (e1 z g : Int) (k : Nat) (w : World) (h1 : Dy w n1 v1 e1 z g) (hk : k ≤ 1000000000) (hg0 : g ≤ 0) (hg : -20000 ≤ g) (hz1 : z.natAbs < BIG) (hz : (z * (k : Int)).natAbs < BIG) :
    Calls Tryd.prog 67 #[dyv n1 v1 e1, .int .i64 (k : Int)] w fun r w' => DyR r w' (z * (k : Int)) g ∧ Below w.heap.size w w' := by
  have hB : Below w.heap.size w ((w.alloc (dcells n1 v1 e1)).alloc (dcells false (.slice none 0 0) 0)) := ((Below.refl _ w).alloc (Nat.le_refl _) _).alloc (by simp) _
  have A0 : DBox ((w.alloc (dcells n1 v1 e1)).alloc (dcells false (.slice none 0 0) 0)) w.heap.size n1 v1 e1 := (DBox.new w _ _ _).below ((Below.refl _ _).alloc (Nat.le_refl _) _) (by simp)
  have R0 : DBox ((w.alloc (dcells n1 v1 e1)).alloc (dcells false (.slice none 0 0) 0)) (w.heap.size + 1) false (.slice none 0 0) 0 := by
    have h := DBox.new (w.alloc (dcells n1 v1 e1)) false (.slice none 0 0) 0
    rw [World.size_alloc] at h; exact h
  obtain ⟨aa, la, ca, rfl⟩ := h1.shape
  have hkb : k < BIG := by
    rw [big_eq]
    refine Nat.lt_of_le_of_lt hk ?_
    refine Nat.lt_of_lt_of_le (show 1000000000 < 2 ^ 32 by decide) (Nat.pow_le_pow_right (by omega) ?_)
    have := bigK_eq
    omega
  go_enter Tryd.func67, Tryd.ntmps67
  go_wp2_with fail
  generalize (w.alloc (dcells n1 (.slice aa la ca) e1)).alloc (dcells false (.slice none 0 0) 0) = V at *
  have bD : Below V.heap.size V V.drew := (Below.refl _ _).drew
  have hu : IntKind.u64.wrap (k : Int) = (k : Int) := by rw [IntKind.wrap_u64]; omega
  have hmx : max (0 : Int) (k : Int) = (k : Int) := by omega
  have hk0 : (0 : Int) ≤ (k : Int) := by omega
  have kF := rfrom_c k (by omega) V.drew
  have kN : ∀ w' v, Below V.heap.size V w' → Res w' v k → Calls Tryd.prog 57 #[.bool false, v, .int .i64 0] w' fun r w'' => DyR r w'' (k : Int) 0 ∧ Below V.heap.size V w'' := by
    rintro w' v hb ⟨C, c1, c2, c3⟩
    have h := rnorm_c false v C 0 0 w' c1 (by decide) (by decide) (by decide) (by rw [c3]; simpa using hkb)
    rw [c3] at h
    have e : sgn false (k * 2 ^ ((0 : Int) - 0).toNat) = (k : Int) := by simp [sgn]
    rw [e] at h
    exact h.mono fun r w'' ⟨k1, k2⟩ => ⟨k1, hb.trans (k2.mono hb.size)⟩
  have kM : ∀ w' n v e, Below V.heap.size V w' → Dy w' n v e (k : Int) 0 → Calls Tryd.prog 39 #[dyv n1 (.slice aa la ca) e1, dyv n v e] w' fun r w'' => DyR r w'' (z * (k : Int)) g ∧ Below V.heap.size V w'' := by
    intro w' n v e hb hd
    have hb2 := hB.trans (hb.mono hB.size)
    have h := rdmul_c n1 n _ v e1 e z (k : Int) g 0 w' (h1.below hb2 (Nat.le_refl _)) hd hg0 (by decide) (by omega) hz1 (by rw [Int.natAbs_natCast]; exact hkb) hz
    rw [Int.add_zero] at h
    exact h.mono fun r w'' ⟨k1, k2⟩ => ⟨k1, hb.trans (k2.mono hb.size)⟩
  have mk : ∀ w', Below V.heap.size V w' → (w'.cell? ⟨w.heap.size, 0, none⟩ = some (.bool n1) ∧ w'.cell? ⟨w.heap.size, 1, none⟩ = some (.slice aa la ca) ∧ w'.cell? ⟨w.heap.size, 2, none⟩ = some (.int .i64 e1)) := fun w' hw => by
    have p := A0.below hw A0.lt
    exact ⟨p.c0, p.c1, p.c2⟩
  have mk2 : ∀ w' n v e, Below V.heap.size V w' → (fun w' : World => w'.cell? ⟨w.heap.size, 0, none⟩ = some (.bool n1) ∧ w'.cell? ⟨w.heap.size, 1, none⟩ = some (.slice aa la ca) ∧ w'.cell? ⟨w.heap.size, 2, none⟩ = some (.int .i64 e1)) (((w'.setCell ⟨w.heap.size + 1, 0, none⟩ (.bool n)).setCell ⟨w.heap.size + 1, 1, none⟩ v).setCell ⟨w.heap.size + 1, 2, none⟩ (.int .i64 e)) := fun w' n v e hw => by
    have p := (A0.below hw A0.lt).putO (B := w.heap.size + 1) (by omega) n v e
    unfold putD at p
    exact ⟨p.c0, p.c1, p.c2⟩
  go_region_held3 (fun w' => w'.cell? ⟨w.heap.size, 0, none⟩ = some (.bool n1) ∧ w'.cell? ⟨w.heap.size, 1, none⟩ = some (.slice aa la ca) ∧ w'.cell? ⟨w.heap.size, 2, none⟩ = some (.int .i64 e1)) (first | exact mk _ (by assumption) | exact mk2 _ _ _ _ (by assumption))
    ((first | (go_at_call 58; refine kF.mono ?_; rintro r w3 ⟨⟨v3, rfl, hR3⟩, hb3'⟩; have hb3 : Below V.heap.size V w3 := bD.trans hb3') | (go_at_call 57; refine (kN w3 v3 hb3 hR3).mono ?_; rintro r w4 ⟨⟨n4, v4, x4, rfl, hR4⟩, hb4⟩) | (go_at_call 39; refine (kM w4 n4 v4 x4 hb4 hR4).mono ?_; rintro r w6 ⟨⟨n6, v6, x6, rfl, hR6⟩, hb6⟩; obtain ⟨a6, l6, c6, rfl⟩ := hR6.shape; have p6 := R0.below hb6 R0.lt; have q0 := p6.c0; have q1 := p6.c1; have q2 := p6.c2; have t0 := p6.fz 0; have t1 := p6.fz 1; have t2 := p6.fz 2)))
  have p7 := p6.put n6 (.slice a6 l6 c6) x6
  have hR7 := hR6.keep p6 (fun _ hn => putD_blk w6 hn n6 (.slice a6 l6 c6) x6)
  have hB7 := putD_below (hB.trans (hb6.mono hB.size)) (B := w.heap.size + 1) (by omega) n6 (.slice a6 l6 c6) x6
  unfold putD at p7 hR7 hB7
  go_wp2_with fail
  exact bodyPost_ret_by (v := dyv n6 (.slice a6 l6 c6) x6) (dy_results rfl p7 rfl) rfl ⟨⟨n6, _, x6, rfl, hR7⟩, hB7⟩
end Go.Proofs.YtdccjlaneobldaaDoor.N

/- What levellingref09.Up comes to, over whole numbers. -/
namespace Go.Proofs.YtdccjlaneobldaaDoor.N
open Go.RowKit Go.Shelf Rnd

/-- How great Gram entries are at most (2^9000), and their norms (2^5000); no tactic counts these out. -/
def zK : Nat := 9000
def uK : Nat := 5000
theorem zK_eq : zK = 9000 := rfl
theorem uK_eq : uK = 5000 := rfl

theorem bl_units {N L : Nat} {e : Int} (h0 : N ≠ 0) (hL : bl N = L) (he : -4296 ≤ e) (hz : N * 2 ^ (e - (-4296)).toNat < 2 ^ zK) : 1 ≤ L ∧ (L : Int) + e ≤ 4704 := by
  subst hL
  have h1 := bl_ge h0
  have h2 := bl_pos h0
  have h3 : 2 ^ (bl N - 1) * 2 ^ (e - (-4296)).toNat < 2 ^ zK := Nat.lt_of_le_of_lt (Nat.mul_le_mul_right _ h1) hz
  rw [← Nat.pow_add] at h3
  have h4 := (Nat.pow_lt_pow_iff_right (show 1 < 2 by omega)).1 h3
  have := zK_eq
  omega
/-- The norm: m, of which the root is taken; c, by how much it was shifted; q, the half of what is left. -/
theorem up_math {N L m R q' : Nat} {e c q : Int} (h0 : N ≠ 0) (hL : bl N = L) (he : -4296 ≤ e) (hz : N * 2 ^ (e - (-4296)).toNat < 2 ^ zK)
    (hc : c = (L : Int) - 128 ∨ c = (L : Int) - 127) (hq : e + c = 2 * q) (hm : (c ≤ 0 ∧ m = N * 2 ^ (-c).toNat) ∨ (0 < c ∧ m = N / 2 ^ c.toNat + 1))
    (h1 : R * R ≤ m) (h2 : m < (R + 1) * (R + 1)) (hq' : (q - (-2212)).toNat = q') :
    -2211 ≤ q ∧ q ≤ 2288 ∧ m < 4294967296 ^ 5 ∧ (R + 1) * 2 ^ q' < 2 ^ uK ∧ N * 2 ^ (e - (-4296)).toNat * 2 ^ 128 ≤ ((R + 1) * 2 ^ q') * ((R + 1) * 2 ^ q') := by
  obtain ⟨u1, u2⟩ := bl_units h0 hL he hz
  have hlt := lt_bl N
  rw [hL] at hlt
  have hq1 : -2211 ≤ q := by omega
  have hq2 : q ≤ 2288 := by omega
  have hmb : m ≤ 2 ^ 128 := by
    rcases hm with ⟨hc0, rfl⟩ | ⟨hc0, rfl⟩
    · have : N * 2 ^ (-c).toNat < 2 ^ L * 2 ^ (-c).toNat := Nat.mul_lt_mul_of_pos_right hlt (pow_pos2 _)
      rw [← Nat.pow_add] at this
      have h3 : 2 ^ (L + (-c).toNat) ≤ 2 ^ 128 := Nat.pow_le_pow_right (by omega) (by omega)
      omega
    · have h3 : N / 2 ^ c.toNat < 2 ^ (L - c.toNat) := by
        rw [Nat.div_lt_iff_lt_mul (pow_pos2 _), ← Nat.pow_add]
        rw [show L - c.toNat + c.toNat = L by omega]
        exact hlt
      have h4 : 2 ^ (L - c.toNat) ≤ 2 ^ 128 := Nat.pow_le_pow_right (by omega) (by omega)
      omega
  have hR : R ≤ 2 ^ 64 := by
    apply Classical.byContradiction
    intro h
    have h3 : (2 ^ 64 + 1) * (2 ^ 64 + 1) ≤ R * R := Nat.mul_le_mul (by omega) (by omega)
    omega
  refine ⟨hq1, hq2, by omega, ?_, ?_⟩
  · have h3 : R + 1 < 2 ^ 65 := by omega
    have h4 : (R + 1) * 2 ^ q' < 2 ^ 65 * 2 ^ q' := Nat.mul_lt_mul_of_pos_right h3 (pow_pos2 _)
    rw [← Nat.pow_add] at h4
    refine Nat.lt_of_lt_of_le h4 (Nat.pow_le_pow_right (by omega) ?_)
    have := uK_eq
    omega
  · have e1 : (R + 1) * 2 ^ q' * ((R + 1) * 2 ^ q') = (R + 1) * (R + 1) * 2 ^ (q' + q') := by
      rw [Nat.pow_add]
      grind
    have e2 : N * 2 ^ (e - (-4296)).toNat * 2 ^ 128 = N * 2 ^ ((e - (-4296)).toNat + 128) := by rw [Nat.mul_assoc, ← Nat.pow_add]
    rw [e1, e2]
    have key : N * 2 ^ ((e - (-4296)).toNat + 128) ≤ m * 2 ^ (q' + q') := by
      rcases hm with ⟨hc0, rfl⟩ | ⟨hc0, rfl⟩
      · rw [Nat.mul_assoc, ← Nat.pow_add]
        refine Nat.mul_le_mul_left _ (Nat.pow_le_pow_right (by omega) ?_)
        omega
      · have h3 : N ≤ (N / 2 ^ c.toNat + 1) * 2 ^ c.toNat := by
          have := Nat.lt_mul_div_succ N (pow_pos2 c.toNat)
          rw [Nat.mul_comm] at this
          omega
        have h4 : 2 ^ ((e - (-4296)).toNat + 128) * 2 ^ c.toNat = 2 ^ (q' + q') := by
          rw [← Nat.pow_add]
          congr 1
          omega
        have h5 := Nat.mul_le_mul_right (2 ^ ((e - (-4296)).toNat + 128)) h3
        refine Nat.le_trans h5 ?_
        rw [Nat.mul_assoc, Nat.mul_comm (2 ^ c.toNat), h4]
        exact Nat.le_refl _
    exact Nat.le_trans key (Nat.mul_le_mul_right _ (Nat.le_of_lt h2))
theorem up_small {N L m : Nat} {c : Int} (hL : bl N = L) (hc : c = (L : Int) - 128 ∨ c = (L : Int) - 127) (hm : (c ≤ 0 ∧ m = N * 2 ^ (-c).toNat) ∨ (0 < c ∧ m = N / 2 ^ c.toNat + 1)) : m ≤ 2 ^ 128 := by
  have hlt := lt_bl N
  rw [hL] at hlt
  rcases hm with ⟨hc0, rfl⟩ | ⟨hc0, rfl⟩
  · have : N * 2 ^ (-c).toNat < 2 ^ L * 2 ^ (-c).toNat := Nat.mul_lt_mul_of_pos_right hlt (pow_pos2 _)
    rw [← Nat.pow_add] at this
    have h3 : 2 ^ (L + (-c).toNat) ≤ 2 ^ 128 := Nat.pow_le_pow_right (by omega) (by omega)
    omega
  · have h3 : N / 2 ^ c.toNat < 2 ^ (L - c.toNat) := by
      rw [Nat.div_lt_iff_lt_mul (pow_pos2 _), ← Nat.pow_add]
      rw [show L - c.toNat + c.toNat = L by omega]
      exact hlt
    have h4 : 2 ^ (L - c.toNat) ≤ 2 ^ 128 := Nat.pow_le_pow_right (by omega) (by omega)
    omega
end Go.Proofs.YtdccjlaneobldaaDoor.N

/- levellingref09.Up: the norm from above. -/
namespace Go.Proofs.YtdccjlaneobldaaDoor.N
open Go.RowKit Go.Shelf Rnd

/-- A dyad's box, and that of the answer. -/
structure S2 (w W : World) (n1 : Bool) (v1 : Value) (e1 : Int) : Prop where
  be : Below w.heap.size w W
  ba : DBox W w.heap.size n1 v1 e1
  br : DBox W (w.heap.size + 1) false (.slice none 0 0) 0
theorem S2.below {w W W' : World} {n1 : Bool} {v1 : Value} {e1 : Int} (h : S2 w W n1 v1 e1) (hb : Below W.heap.size W W') : S2 w W' n1 v1 e1 :=
  ⟨h.be.trans (hb.mono h.be.size), h.ba.below hb h.ba.lt, h.br.below hb h.br.lt⟩
theorem S2.new (w : World) (n1 : Bool) (v1 : Value) (e1 : Int) : S2 w ((w.alloc (dcells n1 v1 e1)).alloc (dcells false (.slice none 0 0) 0)) n1 v1 e1 := by
  refine ⟨((Below.refl _ w).alloc (Nat.le_refl _) _).alloc (by simp) _, ?_, ?_⟩
  · exact (DBox.new w _ _ _).below ((Below.refl _ _).alloc (Nat.le_refl _) _) (by simp)
  · have h := DBox.new (w.alloc (dcells n1 v1 e1)) false (.slice none 0 0) 0
    rw [World.size_alloc] at h
    exact h
theorem S2.putA {w W : World} {n1 : Bool} {v1 : Value} {e1 : Int} (h : S2 w W n1 v1 e1) : S2 w (putD W w.heap.size n1 v1 e1) n1 v1 e1 :=
  ⟨putD_below h.be (Nat.le_refl _) _ _ _, h.ba.put _ _ _, h.br.putO (by omega) _ _ _⟩

/-- A call answers a norm from above. -/
def UpR (e : Ending) (W : World) (z : Int) : Prop := ∃ u : Nat, DyR e W (u : Int) (-2212) ∧ z.natAbs * 2 ^ 128 ≤ u * u ∧ u < 2 ^ uK

theorem up_zero (W : World) {z : Int} (hz : z = 0) : UpR (.returned (dyv false (.slice none 0 0) 0)) W z := by
  subst hz
  refine ⟨0, ⟨false, .slice none 0 0, 0, rfl, Dy.zero W _⟩, ?_, pow_pos2 uK⟩
  rw [Int.natAbs_zero, Nat.zero_mul]
  exact Nat.zero_le _
theorem sgn_nil (k : Nat) : sgn false (val [] * 2 ^ k) = 0 := by
  rw [show val [] = 0 from rfl, Nat.zero_mul]
  rfl

theorem uK_big : 2 ^ uK ≤ BIG := by
  rw [big_eq]
  refine Nat.pow_le_pow_right (by omega) ?_
  have := bigK_eq
  have := uK_eq
  omega
theorem zK_big : 2 ^ zK ≤ BIG := by
  rw [big_eq]
  refine Nat.pow_le_pow_right (by omega) ?_
  have := bigK_eq
  have := zK_eq
  omega
theorem tmod_two {x : Int} (h : x.tmod 2 = 0) : x % 2 = 0 := by
  have h1 := Int.mul_tdiv_add_tmod x 2
  omega
theorem two_tmod {x : Int} (h : x % 2 = 0) : x.tmod 2 = 0 := by
  obtain ⟨q, rfl⟩ : ∃ q, x = 2 * q := ⟨x / 2, by omega⟩
  exact Int.mul_tmod_right 2 q
theorem two_tdiv {x q : Int} (h : x = 2 * q) : x.tdiv 2 = q := by
  subst h
  exact Int.mul_tdiv_cancel_left q (by decide)

set_option maxRecDepth 100000 in
set_option maxHeartbeats 16000000 in
theorem rup_c (n1 : Bool) (v1 : Value) (e1 z : Int) (w : World) (h1 : Dy w n1 v1 e1 z (-4296)) (hz0 : 0 ≤ z) (hz : z.natAbs < 2 ^ zK) :
    Calls Tryd.prog 61 #[dyv n1 v1 e1] w fun r w' => UpR r w' z ∧ Below w.heap.size w w' := by
  obtain rfl := h1.nonneg hz0
  have S := S2.new w false v1 e1
  have hzB : z.natAbs < BIG := by
    rw [big_eq]
    refine Nat.lt_of_lt_of_le hz (Nat.pow_le_pow_right (by omega) ?_)
    have := bigK_eq
    have := zK_eq
    omega
  obtain ⟨A, a1, a2, a3, a4, a5, a6, a7, a8, a9⟩ := h1.parts (by decide) hzB
  clear a9
  obtain ⟨aa, la, ca, rfl⟩ := h1.shape
  obtain ⟨_, _, e, e9⟩ := a1.shape
  cases e
  clear e9
  have HB : Hid (z.natAbs < 2 ^ zK) := hz
  have HA7 : Hid (z = sgn false (val A * 2 ^ (e1 - (-4296)).toNat)) := a7
  clear hz hzB a7 a8 hz0
  go_enter Tryd.func61, Tryd.ntmps61
  go_wp2_with fail
  refine (rdmay_c false _ e1 z (-4296) _ (h1.below S.be (Nat.le_refl _))).mono ?_
  rintro r w1 ⟨rfl, hb⟩
  replace S := S.below hb
  have x0 := S.ba.c0
  have x1 := S.ba.c1
  have x2 := S.ba.c2
  have f0 := S.ba.fz 0
  have f1 := S.ba.fz 1
  have f2 := S.ba.fz 2
  have T := S.putA
  unfold putD at T
  clear hb S
  by_cases hA : A = []
  · subst hA
    simp only [List.length_nil] at T x1
    have y0 := T.ba.c0
    have y1 := T.ba.c1
    have y2 := T.ba.c2
    have HU : Hid (z = 0) := by show _ = _; rw [HA7.out]; exact sgn_nil _
    have r0 := T.br.c0
    have r1 := T.br.c1
    have r2 := T.br.c2
    have z0 := T.br.fz 0
    have z1 := T.br.fz 1
    have z2 := T.br.fz 2
    have b7 := T.br.put false (.slice none 0 0) 0
    have hB7 := putD_below T.be (B := w.heap.size + 1) (by omega) false (.slice none 0 0) 0
    unfold putD at b7 hB7
    go_wp2_with fail
    exact bodyPost_ret_by (v := dyv false (.slice none 0 0) 0) (dy_results rfl b7 rfl) rfl ⟨up_zero _ HU.out, hB7⟩
  · have y0 := T.ba.c0
    have y1 := T.ba.c1
    have y2 := T.ba.c2
    have hl0 : ((A.length : Int) == 0) = false := by rw [beq_eq_false_iff_ne]; have := List.length_pos_iff.2 hA; omega
    have hAl := List.length_pos_iff.2 hA
    have h0 : val A ≠ 0 := fun h => hA (val_zero_nil a2 h)
    obtain ⟨L, hL⟩ : ∃ L, bl (val A) = L := ⟨_, rfl⟩
    have HZZ : Hid (val A * 2 ^ (e1 - (-4296)).toNat < 2 ^ zK) := by
      have h := HB.out
      rw [HA7.out, sgn_abs] at h
      exact h
    have hu1 := (bl_units h0 hL a4 HZZ.out).1
    have hu2 := (bl_units h0 hL a4 HZZ.out).2
    have kL := rlen_c _ A _ (a1.below T.be (Nat.le_refl _))
    rw [hL] at kL
    have HZ : Hid (z.natAbs = val A * 2 ^ (e1 - (-4296)).toNat) := by show _ = _; rw [HA7.out, sgn_abs]
    have HL : Hid (bl (val A) = L) := hL
    have HN0 : Hid (val A ≠ 0) := h0
    clear hL h0 hA
    go_wp2_with fail
    refine kL.mono ?_
    rintro r w2 ⟨rfl, hb⟩
    replace T := T.below hb
    clear hb x0 x1 x2 f0 f1 f2 y0 y1 y2 kL
    have y1 := T.ba.c1
    have y2 := T.ba.c2
    have HPAR : Hid ((L : Int) + e1 ≤ 4704 ∧ 1 ≤ L) := ⟨hu2, hu1⟩
    have pick : ∃ c q : Int, (c = (L : Int) - 128 ∨ c = (L : Int) - 127) ∧ e1 + c = 2 * q ∧ ((c = (L : Int) - 128 ∧ (e1 + ((L : Int) - 128)) % 2 = 0) ∨ (c = (L : Int) - 128 + 1 ∧ ¬ (e1 + ((L : Int) - 128)) % 2 = 0)) := by
      by_cases hp : (e1 + ((L : Int) - 128)) % 2 = 0
      · exact ⟨(L : Int) - 128, (e1 + ((L : Int) - 128)) / 2, .inl rfl, by omega, .inl ⟨rfl, hp⟩⟩
      · exact ⟨(L : Int) - 128 + 1, (e1 + ((L : Int) - 128 + 1)) / 2, .inr (by omega), by omega, .inr ⟨rfl, hp⟩⟩
    obtain ⟨c, q, hc, hq, hpick⟩ := pick
    have HC : Hid ((c = (L : Int) - 128 ∨ c = (L : Int) - 127) ∧ e1 + c = 2 * q) := ⟨hc, hq⟩
    have bc1 : -127 ≤ c := by omega
    have bc2 : c ≤ 25000 := by omega
    have bec : -45000 ≤ e1 + c ∧ e1 + c ≤ 45000 := by omega
    have hwc : IntKind.i64.wrap (e1 + c) = e1 + c := by rw [IntKind.wrap_i64]; omega
    have htd : (e1 + c).tdiv 2 = q := two_tdiv hq
    have hwq : IntKind.i64.wrap q = q := by rw [IntKind.wrap_i64]; omega
    obtain ⟨k, hk⟩ : ∃ k : Nat, max 0 (-c) = (k : Int) := ⟨(max 0 (-c)).toNat, by omega⟩
    have HK : Hid (max 0 (-c) = (k : Int)) := hk
    have kS : Calls Tryd.prog 66 #[.slice aa A.length ca, .int .i64 (max 0 (-c))] w2 fun r w' => (∃ v', r = .returned v' ∧ Res w' v' (val A * 2 ^ k)) ∧ Below w2.heap.size w2 w' := by
      rw [hk]
      exact rshl_c _ A k w2 (a1.below T.be (Nat.le_refl _)) (by omega) (by omega)
    -- what is left, once m is known
    have fin : ∀ m R : Nat, ((c ≤ 0 ∧ m = val A * 2 ^ (-c).toNat) ∨ (0 < c ∧ m = val A / 2 ^ c.toNat + 1)) → R * R ≤ m → m < (R + 1) * (R + 1) → -2212 ≤ q ∧ (R + 1) * 2 ^ (q - (-2212)).toNat < 2 ^ uK ∧ z.natAbs * 2 ^ 128 ≤ ((R + 1) * 2 ^ (q - (-2212)).toNat) * ((R + 1) * 2 ^ (q - (-2212)).toNat) := by
      intro m R hm r1 r2
      obtain ⟨m1, m2, m3, m4, m5⟩ := up_math HN0.out HL.out a4 HZZ.out HC.out.1 HC.out.2 hm r1 r2 rfl
      exact ⟨by omega, m4, by rw [HZ.out]; exact m5⟩
    have few : ∀ m : Nat, ((c ≤ 0 ∧ m = val A * 2 ^ (-c).toNat) ∨ (0 < c ∧ m = val A / 2 ^ c.toNat + 1)) → m < 4294967296 ^ 5 := by
      intro m hm
      have h := up_small HL.out HC.out.1 hm
      omega
    have HFIN : Hid ((∀ m R : Nat, ((c ≤ 0 ∧ m = val A * 2 ^ (-c).toNat) ∨ (0 < c ∧ m = val A / 2 ^ c.toNat + 1)) → R * R ≤ m → m < (R + 1) * (R + 1) → -2212 ≤ q ∧ (R + 1) * 2 ^ (q - (-2212)).toNat < 2 ^ uK ∧ z.natAbs * 2 ^ 128 ≤ ((R + 1) * 2 ^ (q - (-2212)).toNat) * ((R + 1) * 2 ^ (q - (-2212)).toNat)) ∧ (∀ m : Nat, ((c ≤ 0 ∧ m = val A * 2 ^ (-c).toNat) ∨ (0 < c ∧ m = val A / 2 ^ c.toNat + 1)) → m < 4294967296 ^ 5)) := ⟨fin, few⟩
    clear hk fin few hc hq
    -- the last statement, at whatever world
    have last : ∀ (W : World) (vm : Value) (m : Nat), S2 w W false (.slice aa A.length ca) e1 → Res W vm m → ((c ≤ 0 ∧ m = val A * 2 ^ (-c).toNat) ∨ (0 < c ∧ m = val A / 2 ^ c.toNat + 1)) →
        (∀ W', Below W.heap.size W W' → Calls Tryd.prog 79 #[vm] W' fun r w' => (∃ v R, r = .returned v ∧ Res w' v R ∧ -2212 ≤ q ∧ (R + 1) * 2 ^ (q - (-2212)).toNat < 2 ^ uK ∧ z.natAbs * 2 ^ 128 ≤ ((R + 1) * 2 ^ (q - (-2212)).toNat) * ((R + 1) * 2 ^ (q - (-2212)).toNat)) ∧ Below W.heap.size W w' ∧ Below W'.heap.size W' w') := by
      rintro W vm m hS ⟨D, d1, d2, d3⟩ hm W' hb
      have hl : D.length ≤ 5 := len_of_lt d2 (by rw [d3]; exact HFIN.out.2 m hm)
      refine (rroot_c vm D W' (d1.below hb (Nat.le_refl _)) (by omega)).mono ?_
      rintro r w' ⟨⟨v, R, rfl, hR, r1, r2⟩, hb2⟩
      rw [d3] at r1 r2
      obtain ⟨f1, f2, f3⟩ := HFIN.out.1 m R hm r1 r2
      exact ⟨⟨v, R, rfl, hR, f1, f2, f3⟩, hb.trans (hb2.mono hb.size), hb2⟩
    have rest : ∀ (W4 : World) (vm : Value) (m : Nat), S2 w W4 false (.slice aa A.length ca) e1 → Res W4 vm m → ((c ≤ 0 ∧ m = val A * 2 ^ (-c).toNat) ∨ (0 < c ∧ m = val A / 2 ^ c.toNat + 1)) →
        (∀ W', Below W4.heap.size W4 W' → Calls Tryd.prog 58 #[.int .u64 1] W' fun r w' => (∃ v, r = .returned v ∧ Res w' v 1) ∧ Below W4.heap.size W4 w' ∧ Below W'.heap.size W' w') ∧
        (∀ W' va vb R, Below W4.heap.size W4 W' → Res W' va R → Res W' vb 1 → (R + 1) * 2 ^ (q - (-2212)).toNat < 2 ^ uK → Calls Tryd.prog 78 #[va, vb] W' fun r w' => (∃ v, r = .returned v ∧ Res w' v (R + 1)) ∧ Below W4.heap.size W4 w') ∧
        (∀ W' v R, Below W4.heap.size W4 W' → Res W' v (R + 1) → -2212 ≤ q → (R + 1) * 2 ^ (q - (-2212)).toNat < 2 ^ uK → Calls Tryd.prog 57 #[.bool false, v, .int .i64 q] W' fun r w' => DyR r w' (((R + 1) * 2 ^ (q - (-2212)).toNat : Nat) : Int) (-2212) ∧ Below W4.heap.size W4 w') := by
      intro W4 vm m hS hm hcase
      refine ⟨fun W' hb => (rfrom_one W').mono fun r w' ⟨k1, k2⟩ => ⟨k1, hb.trans (k2.mono hb.size), k2⟩, ?_, ?_⟩
      · rintro W' va vb R hb ⟨C, c1, c2, c3⟩ ⟨D, d1, d2, d3⟩ hlt
        have hC : C.length ≤ 600 := len_big c2 (by
          rw [c3]
          refine Nat.lt_of_le_of_lt ?_ (Nat.lt_of_lt_of_le hlt uK_big)
          exact Nat.le_trans (Nat.le_succ R) val_le_abs)
        have hD : D.length ≤ 1 := len_of_lt d2 (by rw [d3]; decide)
        have h := radd_c va vb C D W' c1 d1 (by omega) (by omega)
        rw [c3, d3] at h
        exact h.mono fun r w' ⟨k1, k2⟩ => ⟨k1, hb.trans (k2.mono hb.size)⟩
      · rintro W' v R hb ⟨C, c1, c2, c3⟩ hq0 hlt
        have h := rnorm_c false v C q (-2212) W' c1 (by decide) (by decide) hq0 (by rw [c3]; exact Nat.lt_of_lt_of_le hlt uK_big)
        rw [c3] at h
        exact h.mono fun r w' ⟨k1, k2⟩ => ⟨k1, hb.trans (k2.mono hb.size)⟩
    have kR : 0 < c → ∀ W, S2 w W false (.slice aa A.length ca) e1 → Calls Tryd.prog 75 #[.slice aa A.length ca, .int .i64 c] W fun r w' => (∃ v b, r = .returned (.tuple #[v, .bool b]) ∧ Res w' v (val A / 2 ^ c.toNat)) ∧ Below W.heap.size W w' := by
      intro hc0 W hS
      have h := rshr_c _ A c.toNat W (a1.below hS.be (Nat.le_refl _)) (by omega) (by omega)
      rw [show ((c.toNat : Nat) : Int) = c by omega] at h
      exact h.mono fun r w' ⟨⟨v, k1, k2⟩, k3⟩ => ⟨⟨v, _, k1, k2⟩, k3⟩
    have HKK : Hid (c ≤ 0 → k = (-c).toNat) := by intro h; have := HK.out; omega
    have HLAST : Hid (∀ (W : World) (vm : Value) (m : Nat), S2 w W false (.slice aa A.length ca) e1 → Res W vm m → ((c ≤ 0 ∧ m = val A * 2 ^ (-c).toNat) ∨ (0 < c ∧ m = val A / 2 ^ c.toNat + 1)) →
        (∀ W', Below W.heap.size W W' → Calls Tryd.prog 79 #[vm] W' fun r w' => (∃ v R, r = .returned v ∧ Res w' v R ∧ -2212 ≤ q ∧ (R + 1) * 2 ^ (q - (-2212)).toNat < 2 ^ uK ∧ z.natAbs * 2 ^ 128 ≤ ((R + 1) * 2 ^ (q - (-2212)).toNat) * ((R + 1) * 2 ^ (q - (-2212)).toNat)) ∧ Below W.heap.size W w' ∧ Below W'.heap.size W' w')) := last
    clear last HFIN
    have hp' : ((e1 + ((L : Int) - 128)).tmod 2 != 0) = decide (c = (L : Int) - 128 + 1) := by
      rcases hpick with ⟨h1, h2⟩ | ⟨h1, h2⟩
      · rw [decide_eq_false (by omega), bne_eq_false_iff_eq]
        exact two_tmod h2
      · rw [decide_eq_true h1, bne_iff_ne]
        intro h
        exact h2 (tmod_two h)
    rcases hpick with ⟨hcc, hp⟩ | ⟨hcc, hp⟩
    all_goals
      first
        | (rw [decide_eq_false (by omega)] at hp'
           have HCC : Hid (c = (L : Int) - 128) := hcc
           clear hcc hp
           go_wp2_with fail
           rw [← HCC.out]
           clear hp' HCC)
        | (rw [decide_eq_true hcc] at hp'
           have HCC : Hid (c = (L : Int) - 128 + 1) := hcc
           clear hcc hp
           go_wp2_with fail
           rw [← HCC.out]
           clear hp' HCC)
      refine kS.mono ?_
      rintro r w3 ⟨⟨v3, rfl, X3⟩, hb⟩
      have T3 := T.below hb
      clear hb T y1 y2 kS
      have y1 := T3.ba.c1
      have y2 := T3.ba.c2
      by_cases hc0 : (0 : Int) < c
      · go_wp2_with fail
        refine (kR hc0 w3 T3).mono ?_
        rintro r w4 ⟨⟨v4, b4, rfl, X4⟩, hb⟩
        have T4 := T3.below hb
        clear hb T3 y1 y2 X3
        go_wp2_with fail
        refine (rfrom_one _).mono ?_
        rintro r w5 ⟨⟨v5, rfl, X5⟩, hb⟩
        have T5 := T4.below hb
        replace X4 := X4.below hb (Nat.le_refl _)
        obtain ⟨C, c1, c2, c3⟩ := X4
        obtain ⟨D, d1, d2, d3⟩ := X5
        have hC : C.length ≤ 600 := len_big c2 (by
          rw [c3]
          refine Nat.lt_of_le_of_lt (Nat.div_le_self _ _) ?_
          exact Nat.lt_of_le_of_lt val_le_abs (Nat.lt_of_lt_of_le HZZ.out zK_big))
        have hD : D.length ≤ 1 := len_of_lt d2 (by rw [d3]; decide)
        have kA := radd_c v4 v5 C D w5 c1 d1 (by omega) (by omega)
        rw [c3, d3] at kA
        clear hb T4
        go_wp2_with fail
        refine kA.mono ?_
        rintro r W4 ⟨⟨vm, rfl, XM⟩, hb⟩
        have T6 := T5.below hb
        have hcase : (c ≤ 0 ∧ val A / 2 ^ c.toNat + 1 = val A * 2 ^ (-c).toNat) ∨ (0 < c ∧ val A / 2 ^ c.toNat + 1 = val A / 2 ^ c.toNat + 1) := .inr ⟨hc0, rfl⟩
        have kRoot := HLAST.out W4 vm _ T6 XM hcase
        obtain ⟨kOne, kAdd, kNorm⟩ := rest W4 vm _ T6 XM hcase
        clear hb T5 kA XM hcase c1 c2 c3 d1 d2 d3 hC hD rest HLAST
        go_wp2_with fail
        have bD : Below W4.heap.size W4 W4.drew := (Below.refl _ _).drew
        have mk : ∀ w', Below W4.heap.size W4 w' → w'.cell? ⟨w.heap.size, 2, none⟩ = some (.int .i64 e1) := fun w' hw => (T6.below hw).ba.c2
        have mk2 : ∀ w' n v e, Below W4.heap.size W4 w' → (((w'.setCell ⟨w.heap.size + 1, 0, none⟩ (.bool n)).setCell ⟨w.heap.size + 1, 1, none⟩ v).setCell ⟨w.heap.size + 1, 2, none⟩ (.int .i64 e)).cell? ⟨w.heap.size, 2, none⟩ = some (.int .i64 e1) := fun w' n v e hw => by
          have pa := (T6.below hw).ba.putO (B := w.heap.size + 1) (by omega) n v e
          unfold putD at pa
          exact pa.c2
        go_region_held3 (fun w' => w'.cell? ⟨w.heap.size, 2, none⟩ = some (.int .i64 e1)) (first | exact mk _ (by assumption) | exact mk2 _ _ _ _ (by assumption))
          ((first
            | (go_at_call 79; with_reducible refine (kRoot W4.drew bD).mono ?_; rintro r wA ⟨⟨vA, R, rfl, rA, q1, q2, q3⟩, hbA, hbA'⟩)
            | (go_at_call 58; with_reducible refine (kOne wA hbA).mono ?_; rintro r wB ⟨⟨vB, rfl, rB⟩, hbB, hbB'⟩; have rA2 := rA.below hbB' (Nat.le_refl _))
            | (go_at_call 78; with_reducible refine (kAdd wB vA vB R hbB rA2 rB q2).mono ?_; rintro r wC ⟨⟨vC, rfl, rC⟩, hbC⟩)
            | (go_at_call 57; (with_reducible refine (kNorm wC vC R hbC rC q1 q2).mono ?_); rintro r w6 ⟨⟨n6, v6, x6, rfl, hR6⟩, hb6⟩; obtain ⟨a6, l6, c6, rfl⟩ := hR6.shape; have p6 := (T6.below hb6).br; have g0 := p6.c0; have g1 := p6.c1; have g2 := p6.c2; have t0 := p6.fz 0; have t1 := p6.fz 1; have t2 := p6.fz 2)))
        have p7 := p6.put n6 (.slice a6 l6 c6) x6
        have hR7 := hR6.keep p6 (fun _ hn => putD_blk w6 hn n6 (.slice a6 l6 c6) x6)
        have hB7 := putD_below (T6.below hb6).be (B := w.heap.size + 1) (by omega) n6 (.slice a6 l6 c6) x6
        unfold putD at p7 hR7 hB7
        go_wp2_with fail
        exact bodyPost_ret_by (v := dyv n6 (.slice a6 l6 c6) x6) (dy_results rfl p7 rfl) rfl ⟨⟨_, ⟨n6, _, x6, rfl, hR7⟩, q3, q2⟩, hB7⟩
      · have hcase : (c ≤ 0 ∧ val A * 2 ^ k = val A * 2 ^ (-c).toNat) ∨ (0 < c ∧ val A * 2 ^ k = val A / 2 ^ c.toNat + 1) := .inl ⟨by omega, by rw [HKK.out (by omega)]⟩
        have kRoot := HLAST.out w3 v3 _ T3 X3 hcase
        obtain ⟨kOne, kAdd, kNorm⟩ := rest w3 v3 _ T3 X3 hcase
        clear X3 hcase rest HLAST
        go_wp2_with fail
        have bD : Below w3.heap.size w3 w3.drew := (Below.refl _ _).drew
        have mk : ∀ w', Below w3.heap.size w3 w' → w'.cell? ⟨w.heap.size, 2, none⟩ = some (.int .i64 e1) := fun w' hw => (T3.below hw).ba.c2
        have mk2 : ∀ w' n v e, Below w3.heap.size w3 w' → (((w'.setCell ⟨w.heap.size + 1, 0, none⟩ (.bool n)).setCell ⟨w.heap.size + 1, 1, none⟩ v).setCell ⟨w.heap.size + 1, 2, none⟩ (.int .i64 e)).cell? ⟨w.heap.size, 2, none⟩ = some (.int .i64 e1) := fun w' n v e hw => by
          have pa := (T3.below hw).ba.putO (B := w.heap.size + 1) (by omega) n v e
          unfold putD at pa
          exact pa.c2
        go_region_held3 (fun w' => w'.cell? ⟨w.heap.size, 2, none⟩ = some (.int .i64 e1)) (first | exact mk _ (by assumption) | exact mk2 _ _ _ _ (by assumption))
          ((first
            | (go_at_call 79; with_reducible refine (kRoot w3.drew bD).mono ?_; rintro r wA ⟨⟨vA, R, rfl, rA, q1, q2, q3⟩, hbA, hbA'⟩)
            | (go_at_call 58; with_reducible refine (kOne wA hbA).mono ?_; rintro r wB ⟨⟨vB, rfl, rB⟩, hbB, hbB'⟩; have rA2 := rA.below hbB' (Nat.le_refl _))
            | (go_at_call 78; with_reducible refine (kAdd wB vA vB R hbB rA2 rB q2).mono ?_; rintro r wC ⟨⟨vC, rfl, rC⟩, hbC⟩)
            | (go_at_call 57; (with_reducible refine (kNorm wC vC R hbC rC q1 q2).mono ?_); rintro r w6 ⟨⟨n6, v6, x6, rfl, hR6⟩, hb6⟩; obtain ⟨a6, l6, c6, rfl⟩ := hR6.shape; have p6 := (T3.below hb6).br; have g0 := p6.c0; have g1 := p6.c1; have g2 := p6.c2; have t0 := p6.fz 0; have t1 := p6.fz 1; have t2 := p6.fz 2)))
        have p7 := p6.put n6 (.slice a6 l6 c6) x6
        have hR7 := hR6.keep p6 (fun _ hn => putD_blk w6 hn n6 (.slice a6 l6 c6) x6)
        have hB7 := putD_below (T3.below hb6).be (B := w.heap.size + 1) (by omega) n6 (.slice a6 l6 c6) x6
        unfold putD at p7 hR7 hB7
        go_wp2_with fail
        exact bodyPost_ret_by (v := dyv n6 (.slice a6 l6 c6) x6) (dy_results rfl p7 rfl) rfl ⟨⟨_, ⟨n6, _, x6, rfl, hR7⟩, q3, q2⟩, hB7⟩
end Go.Proofs.YtdccjlaneobldaaDoor.N

/- levellingref09.bound at one rotation: of two norms in units of 2^-2212, in units of 2^-4477. -/
namespace Go.Proofs.YtdccjlaneobldaaDoor.N
open Go.RowKit Go.Shelf Rnd

/-- A dyad at a lesser unit. -/
theorem Dy.unit {W : World} {neg : Bool} {nv : Value} {e z g g' : Int} (h : Dy W neg nv e z g) (hg : g' ≤ g) : Dy W neg nv e (z * ((2 ^ (g - g').toNat : Nat) : Int)) g' := by
  obtain ⟨ds, h1, h2, h3⟩ := h
  refine ⟨ds, h1, h2, ?_⟩
  rcases h3 with ⟨rfl, rfl, rfl, rfl⟩ | ⟨ho, he1, he2, hge, rfl⟩
  · exact .inl ⟨rfl, rfl, rfl, Int.zero_mul _⟩
  · refine .inr ⟨ho, he1, he2, by omega, ?_⟩
    have e1 : val ds * 2 ^ (e - g').toNat = val ds * 2 ^ (e - g).toNat * 2 ^ (g - g').toNat := by
      rw [Nat.mul_assoc, ← Nat.pow_add]
      congr 2
      omega
    rw [e1]
    unfold sgn
    cases neg
    · simp only [Bool.false_eq_true, if_false]
      exact (Int.natCast_mul (val ds * 2 ^ (e - g).toNat) _).symm
    · simp only [if_true]
      rw [Int.neg_mul]
      exact congrArg Neg.neg (Int.natCast_mul (val ds * 2 ^ (e - g).toNat) _).symm

/-- What the bound is, of norms a and b: 64 2^-53 a b, 2^-1060 (a + b), 2^-2140, in units of 2^-4477. -/
def bnd (a b : Nat) : Nat := 64 * (a * b) + pw 1205 * (a + b) + pw 2337
end Go.Proofs.YtdccjlaneobldaaDoor.N

/- levellingref09.bound at one rotation. -/
namespace Go.Proofs.YtdccjlaneobldaaDoor.N
open Go.RowKit Go.Shelf Rnd

theorem mul_lt_pow {a b x y : Nat} (ha : a < 2 ^ x) (hb : b < 2 ^ y) : a * b < 2 ^ (x + y) := by
  rw [Nat.pow_add]
  exact Nat.mul_lt_mul'' ha hb
theorem lt_big {n k : Nat} (h : n < 2 ^ k) (hk : k ≤ 32 * bigK) : n < BIG := by
  rw [big_eq]
  exact Nat.lt_of_lt_of_le h (Nat.pow_le_pow_right (by omega) hk)
theorem pw_lt {k n : Nat} (h : k < n) : pw k < 2 ^ n := Nat.pow_lt_pow_right (by omega) h
theorem pw_big {k : Nat} (h : k < 19200) : pw k < BIG := by
  rw [big_eq]
  exact pw_lt (by have := bigK_eq; omega)
theorem one_big : 1 < BIG := Nat.lt_of_le_of_lt (pow_pos2 7) (pw_big (k := 7) (by decide))
theorem pow_pw {k g : Int} {n : Nat} (h : (k - g).toNat = n) : 2 ^ (k - g).toNat = pw n := by rw [h]; rfl
theorem add_lt_pow {a b x : Nat} (ha : a < 2 ^ x) (hb : b < 2 ^ x) : a + b < 2 ^ (x + 1) := by
  rw [Nat.pow_succ]
  omega
/-- The numbers that come up on the way are small enough. -/
theorem bnd_small {a b : Nat} (ha : a < 2 ^ uK) (hb : b < 2 ^ uK) : a < BIG ∧ b < BIG ∧ a * b < BIG ∧ a * b * 64 < BIG ∧ a + b < BIG ∧ (a + b) * pw 1205 < BIG ∧ pw 1205 < BIG ∧ pw 2337 < BIG ∧ a * b * 64 + (a + b) * pw 1205 < BIG ∧ a * b * 64 + (a + b) * pw 1205 + pw 2337 < BIG := by
  have e1 := bigK_eq
  have e2 := uK_eq
  have m1 := mul_lt_pow ha hb
  have m2 := mul_lt_pow m1 (show 64 < 2 ^ 7 by decide)
  have m3 := add_lt_pow ha hb
  have m4 := mul_lt_pow m3 (pw_lt (k := 1205) (n := uK) (by omega))
  have m5 : (a + b) * pw 1205 < 2 ^ (uK + uK + 7) := Nat.lt_of_lt_of_le m4 (Nat.pow_le_pow_right (by omega) (by omega))
  have m6 := add_lt_pow m2 m5
  have m7 : pw 2337 < 2 ^ (uK + uK + 7 + 1) := pw_lt (by omega)
  have m8 := add_lt_pow m6 m7
  exact ⟨lt_big ha (by omega), lt_big hb (by omega), lt_big m1 (by omega), lt_big m2 (by omega), lt_big m3 (by omega), lt_big m5 (by omega), pw_big (by decide), pw_big (by decide), lt_big m6 (by omega), lt_big m8 (by omega)⟩
theorem bnd_eq (a b : Nat) : a * b * 64 + (a + b) * pw 1205 + pw 2337 = bnd a b := by
  unfold bnd
  rw [Nat.mul_comm (a * b) 64, Nat.mul_comm (a + b)]

/-- A dyad in a box, for a walk. -/
structure DX (W : World) (B : Nat) (n : Bool) (v : Value) (e z g : Int) : Prop where
  x : DBox W B n v e
  d : Dy W n v e z g
theorem DX.below {W W' : World} {B : Nat} {n : Bool} {v : Value} {e z g : Int} (h : DX W B n v e z g) (hb : Below W.heap.size W W') : DX W' B n v e z g := ⟨h.x.below hb h.x.lt, h.d.below hb (Nat.le_refl _)⟩
theorem DX.new {w : World} {n : Bool} {v : Value} {e z g : Int} (h : Dy w n v e z g) : DX (w.alloc (dcells n v e)) w.heap.size n v e z g := ⟨DBox.new _ _ _ _, h.below ((Below.refl _ w).alloc (Nat.le_refl _) _) (Nat.le_refl _)⟩

set_option maxRecDepth 100000 in
set_option maxHeartbeats 8000000 in
theorem rbound_c (n1 n2 : Bool) (v1 v2 : Value) (e1 e2 : Int) (a b : Nat) (w : World) (h1 : Dy w n1 v1 e1 (a : Int) (-2212)) (h2 : Dy w n2 v2 e2 (b : Int) (-2212)) (ha : a < 2 ^ uK) (hb : b < 2 ^ uK) :
    Calls Tryd.prog 46 #[dyv n1 v1 e1, dyv n2 v2 e2, .int .i64 1] w fun r w' => DyR r w' (bnd a b : Int) (-4477) ∧ Below w.heap.size w w' := by
  obtain ⟨s1, s2, s3, s4, s5, s6, s7, s8, s9, s10⟩ := bnd_small ha hb
  have S := S3.new w n1 v1 e1 n2 v2 e2
  have p53 : 2 ^ ((-53 : Int) - (-53)).toNat = 1 := by decide
  have p1060 := pow_pw (k := -1060) (g := -2265) (n := 1205) (by decide)
  have p2140 := pow_pw (k := -2140) (g := -4477) (n := 2337) (by decide)
  have k1 : ∀ W, Below w.heap.size w W → Calls Tryd.prog 39 #[dyv n1 v1 e1, dyv n2 v2 e2] W fun r w' => DyR r w' ((a * b : Nat) : Int) (-4424) ∧ Below W.heap.size W w' := by
    intro W hW
    have h := rdmul_c n1 n2 v1 v2 e1 e2 a b (-2212) (-2212) W (h1.below hW (Nat.le_refl _)) (h2.below hW (Nat.le_refl _)) (by decide) (by decide) (by decide) (by rw [Int.natAbs_natCast]; exact s1) (by rw [Int.natAbs_natCast]; exact s2) (by rw [← Int.natCast_mul, Int.natAbs_natCast]; exact s3)
    rw [← Int.natCast_mul] at h
    exact h
  have k2 : ∀ W n v e, Dy W n v e ((a * b : Nat) : Int) (-4424) → Calls Tryd.prog 67 #[dyv n v e, .int .i64 64] W fun r w' => DyR r w' ((a * b * 64 : Nat) : Int) (-4424) ∧ Below W.heap.size W w' := by
    intro W n v e h
    have h := rtimes_c n v e _ (-4424) 64 W h (by decide) (by decide) (by decide) (by rw [Int.natAbs_natCast]; exact s3) (by rw [← Int.natCast_mul, Int.natAbs_natCast]; exact s4)
    rw [← Int.natCast_mul] at h
    exact h
  have k3 : ∀ W, Calls Tryd.prog 68 #[.int .i64 (-53)] W fun r w' => DyR r w' 1 (-53) ∧ Below W.heap.size W w' := by
    intro W
    have h := rpow4_c (-53) (-53) W (by decide) (by decide) (by decide) (by rw [p53]; exact one_big)
    rw [p53] at h
    exact h
  have k4 : ∀ W n v e n' v' e', Dy W n v e ((a * b * 64 : Nat) : Int) (-4424) → Dy W n' v' e' 1 (-53) → Calls Tryd.prog 39 #[dyv n v e, dyv n' v' e'] W fun r w' => DyR r w' ((a * b * 64 : Nat) : Int) (-4477) ∧ Below W.heap.size W w' := by
    intro W n v e n' v' e' h h'
    have h := rdmul_c n n' v v' e e' _ 1 (-4424) (-53) W h h' (by decide) (by decide) (by decide) (by rw [Int.natAbs_natCast]; exact s4) one_big (by rw [Int.mul_one, Int.natAbs_natCast]; exact s4)
    rw [Int.mul_one] at h
    exact h
  have k5 : ∀ W, Below w.heap.size w W → Calls Tryd.prog 63 #[dyv n1 v1 e1, dyv n2 v2 e2] W fun r w' => DyR r w' ((a + b : Nat) : Int) (-2212) ∧ Below W.heap.size W w' := by
    intro W hW
    have h := rdadd_c n1 n2 v1 v2 e1 e2 a b (-2212) W (h1.below hW (Nat.le_refl _)) (h2.below hW (Nat.le_refl _)) (by decide) (by decide) (by rw [Int.natAbs_natCast]; exact s1) (by rw [Int.natAbs_natCast]; exact s2) (by rw [← Int.natCast_add, Int.natAbs_natCast]; exact s5)
    rw [← Int.natCast_add] at h
    exact h
  have k6 : ∀ W n v e z g, Dy W n v e z g → g ≤ 0 → -20000 ≤ g → z.natAbs < BIG → Calls Tryd.prog 67 #[dyv n v e, .int .i64 1] W fun r w' => DyR r w' z g ∧ Below W.heap.size W w' := by
    intro W n v e z g h hg0 hg hz
    have h := rtimes_c n v e z g 1 W h (by decide) hg0 hg hz (by rw [Int.natCast_one, Int.mul_one]; exact hz)
    rw [Int.natCast_one, Int.mul_one] at h
    exact h
  have k7 : ∀ W, Calls Tryd.prog 68 #[.int .i64 (-1060)] W fun r w' => DyR r w' (pw 1205 : Int) (-2265) ∧ Below W.heap.size W w' := by
    intro W
    have h := rpow4_c (-1060) (-2265) W (by decide) (by decide) (by decide) (by rw [p1060]; exact s7)
    rw [p1060] at h
    exact h
  have k8 : ∀ W n v e n' v' e', Dy W n v e ((a + b : Nat) : Int) (-2212) → Dy W n' v' e' (pw 1205 : Int) (-2265) → Calls Tryd.prog 39 #[dyv n v e, dyv n' v' e'] W fun r w' => DyR r w' (((a + b) * pw 1205 : Nat) : Int) (-4477) ∧ Below W.heap.size W w' := by
    intro W n v e n' v' e' h h'
    have h := rdmul_c n n' v v' e e' _ _ (-2212) (-2265) W h h' (by decide) (by decide) (by decide) (by rw [Int.natAbs_natCast]; exact s5) (by rw [Int.natAbs_natCast]; exact s7) (by rw [← Int.natCast_mul, Int.natAbs_natCast]; exact s6)
    rw [← Int.natCast_mul] at h
    exact h
  have k9 : ∀ W, Calls Tryd.prog 68 #[.int .i64 (-2140)] W fun r w' => DyR r w' (pw 2337 : Int) (-4477) ∧ Below W.heap.size W w' := by
    intro W
    have h := rpow4_c (-2140) (-4477) W (by decide) (by decide) (by decide) (by rw [p2140]; exact s8)
    rw [p2140] at h
    exact h
  have k10 : ∀ W n v e n' v' e', Dy W n v e ((a * b * 64 : Nat) : Int) (-4477) → Dy W n' v' e' (((a + b) * pw 1205 : Nat) : Int) (-4477) → Calls Tryd.prog 63 #[dyv n v e, dyv n' v' e'] W fun r w' => DyR r w' ((a * b * 64 + (a + b) * pw 1205 : Nat) : Int) (-4477) ∧ Below W.heap.size W w' := by
    intro W n v e n' v' e' h h'
    have h := rdadd_c n n' v v' e e' _ _ (-4477) W h h' (by decide) (by decide) (by rw [Int.natAbs_natCast]; exact s4) (by rw [Int.natAbs_natCast]; exact s6) (by rw [← Int.natCast_add, Int.natAbs_natCast]; exact s9)
    rw [← Int.natCast_add] at h
    exact h
  have k11 : ∀ W n v e n' v' e', Dy W n v e ((a * b * 64 + (a + b) * pw 1205 : Nat) : Int) (-4477) → Dy W n' v' e' (pw 2337 : Int) (-4477) → Calls Tryd.prog 63 #[dyv n v e, dyv n' v' e'] W fun r w' => DyR r w' (bnd a b : Int) (-4477) ∧ Below W.heap.size W w' := by
    intro W n v e n' v' e' h h'
    have h := rdadd_c n n' v v' e e' _ _ (-4477) W h h' (by decide) (by decide) (by rw [Int.natAbs_natCast]; exact s9) (by rw [Int.natAbs_natCast]; exact s8) (by rw [← Int.natCast_add, Int.natAbs_natCast]; exact s10)
    rw [← Int.natCast_add, bnd_eq] at h
    exact h
  have t5 : ∀ W n v e, Dy W n v e ((a + b : Nat) : Int) (-2212) → Calls Tryd.prog 67 #[dyv n v e, .int .i64 1] W fun r w' => DyR r w' ((a + b : Nat) : Int) (-2212) ∧ Below W.heap.size W w' := fun W n v e h => k6 W n v e _ _ h (by decide) (by decide) (by rw [Int.natAbs_natCast]; exact s5)
  have t8 : ∀ W n v e, Dy W n v e (pw 2337 : Int) (-4477) → Calls Tryd.prog 67 #[dyv n v e, .int .i64 1] W fun r w' => DyR r w' (pw 2337 : Int) (-4477) ∧ Below W.heap.size W w' := fun W n v e h => k6 W n v e _ _ h (by decide) (by decide) (by rw [Int.natAbs_natCast]; exact s8)
  obtain ⟨aa, la, ca, rfl⟩ := h1.shape
  obtain ⟨ab, lb, cb, rfl⟩ := h2.shape
  clear k6 s1 s2 s3 s4 s5 s6 s7 s8 s9 s10 p53 p1060 p2140 h1 h2 ha hb
  go_enter Tryd.func46, Tryd.ntmps46
  go_wp2_with fail
  refine (k1 _ S.be).mono ?_
  rintro r w1 ⟨⟨q1, u1, x1, rfl, D1⟩, hb⟩
  replace S := S.below hb
  clear hb
  go_wp2_with fail
  refine (k2 _ _ _ _ D1).mono ?_
  rintro r w2 ⟨⟨q2, u2, x2, rfl, D2⟩, hb⟩
  replace S := S.below hb
  clear hb D1
  go_wp2_with fail
  refine (k3 _).mono ?_
  rintro r w3 ⟨⟨q3, u3, x3, rfl, D3⟩, hb⟩
  replace S := S.below hb
  replace D2 := D2.below hb (Nat.le_refl _)
  clear hb
  go_wp2_with fail
  refine (k4 _ _ _ _ _ _ _ D2 D3).mono ?_
  rintro r w4 ⟨⟨q4, u4, x4, rfl, D4⟩, hb⟩
  replace S := S.below hb
  obtain ⟨a4, l4, c4, rfl⟩ := D4.shape
  have LT4 : Hid (w.heap.size + 1 + 1 < w4.heap.size) := S.br.lt
  have X7 := DX.new D4
  have hb7 : Below w4.heap.size w4 (w4.alloc (dcells q4 (.slice a4 l4 c4) x4)) := (Below.refl _ w4).alloc (Nat.le_refl _) _
  replace S := S.below hb7
  clear hb hb7 D2 D3 D4
  have y0 := S.ba.c0
  have y1 := S.ba.c1
  have y2 := S.ba.c2
  have y3 := S.bb.c0
  have y4 := S.bb.c1
  have y5 := S.bb.c2
  go_wp2_with fail
  refine (k5 _ S.be).mono ?_
  rintro r w5 ⟨⟨q5, u5, x5, rfl, D5⟩, hb⟩
  replace S := S.below hb
  replace X7 := X7.below hb
  clear hb y0 y1 y2 y3 y4 y5
  go_wp2_with fail
  refine (t5 _ _ _ _ D5).mono ?_
  rintro r w6 ⟨⟨q6, u6, x6, rfl, D6⟩, hb⟩
  replace S := S.below hb
  replace X7 := X7.below hb
  clear hb D5
  go_wp2_with fail
  refine (k7 _).mono ?_
  rintro r w7 ⟨⟨q7, u7, x7, rfl, D7⟩, hb⟩
  replace S := S.below hb
  replace X7 := X7.below hb
  replace D6 := D6.below hb (Nat.le_refl _)
  clear hb
  go_wp2_with fail
  refine (k8 _ _ _ _ _ _ _ D6 D7).mono ?_
  rintro r w8 ⟨⟨q8, u8, x8, rfl, D8⟩, hb⟩
  replace S := S.below hb
  replace X7 := X7.below hb
  obtain ⟨a8, l8, c8, rfl⟩ := D8.shape
  have LT8 : Hid (w.heap.size + 1 + 1 < w8.heap.size) := S.br.lt
  have X8 := DX.new D8
  have hb8 : Below w8.heap.size w8 (w8.alloc (dcells q8 (.slice a8 l8 c8) x8)) := (Below.refl _ w8).alloc (Nat.le_refl _) _
  replace S := S.below hb8
  replace X7 := X7.below hb8
  clear hb hb8 D6 D7 D8
  go_wp2_with fail
  refine (k9 _).mono ?_
  rintro r w9 ⟨⟨q9, u9, x9, rfl, D9⟩, hb⟩
  replace S := S.below hb
  replace X7 := X7.below hb
  replace X8 := X8.below hb
  clear hb
  go_wp2_with fail
  refine (t8 _ _ _ _ D9).mono ?_
  rintro r wa ⟨⟨qa, ua, xa, rfl, Da⟩, hb⟩
  replace S := S.below hb
  replace X7 := X7.below hb
  replace X8 := X8.below hb
  clear hb D9
  go_wp2_with fail
  refine (t8 _ _ _ _ Da).mono ?_
  rintro r wb ⟨⟨qb, ub, xb, rfl, Db⟩, hb⟩
  replace S := S.below hb
  replace X7 := X7.below hb
  replace X8 := X8.below hb
  obtain ⟨ab_, lb_, cb_, rfl⟩ := Db.shape
  have LTb : Hid (w.heap.size + 1 + 1 < wb.heap.size) := S.br.lt
  have X9 := DX.new Db
  have hb9 : Below wb.heap.size wb (wb.alloc (dcells qb (.slice ab_ lb_ cb_) xb)) := (Below.refl _ wb).alloc (Nat.le_refl _) _
  replace S := S.below hb9
  replace X7 := X7.below hb9
  replace X8 := X8.below hb9
  clear hb hb9 Da Db
  go_wp2_with fail
  have g7 : w.heap.size + 1 + 1 < w4.heap.size := LT4.out
  have g8 : w.heap.size + 1 + 1 < w8.heap.size := LT8.out
  have g9 : w.heap.size + 1 + 1 < wb.heap.size := LTb.out
  generalize w4.heap.size = P7 at *
  generalize w8.heap.size = P8 at *
  generalize wb.heap.size = P9 at *
  generalize wb.alloc (dcells qb (.slice ab_ lb_ cb_) xb) = V at *
  have bD : Below V.heap.size V V.drew := (Below.refl _ _).drew
  have kA := k10 V.drew _ _ _ _ _ _ (X7.below bD).d (X8.below bD).d
  have kB : ∀ w' n v e, Below V.heap.size V w' → Dy w' n v e ((a * b * 64 + (a + b) * pw 1205 : Nat) : Int) (-4477) → Calls Tryd.prog 63 #[dyv n v e, dyv qb (.slice ab_ lb_ cb_) xb] w' fun r w'' => DyR r w'' (bnd a b : Int) (-4477) ∧ Below V.heap.size V w'' := fun w' n v e hw hd =>
    (k11 w' n v e _ _ _ hd (X9.below hw).d).mono fun r w'' ⟨o1, o2⟩ => ⟨o1, hw.trans (o2.mono hw.size)⟩
  have mk : ∀ w', Below V.heap.size V w' → (w'.cell? ⟨P7, 0, none⟩ = some (.bool q4) ∧ w'.cell? ⟨P7, 1, none⟩ = some (.slice a4 l4 c4) ∧ w'.cell? ⟨P7, 2, none⟩ = some (.int .i64 x4) ∧ w'.cell? ⟨P8, 0, none⟩ = some (.bool q8) ∧ w'.cell? ⟨P8, 1, none⟩ = some (.slice a8 l8 c8) ∧ w'.cell? ⟨P8, 2, none⟩ = some (.int .i64 x8) ∧ w'.cell? ⟨P9, 0, none⟩ = some (.bool qb) ∧ w'.cell? ⟨P9, 1, none⟩ = some (.slice ab_ lb_ cb_) ∧ w'.cell? ⟨P9, 2, none⟩ = some (.int .i64 xb)) := fun w' hw => by
    have p := (X7.below hw).x
    have q := (X8.below hw).x
    have r := (X9.below hw).x
    exact ⟨p.c0, p.c1, p.c2, q.c0, q.c1, q.c2, r.c0, r.c1, r.c2⟩
  have mk2 : ∀ w' n v e, Below V.heap.size V w' → (fun w' : World => w'.cell? ⟨P7, 0, none⟩ = some (.bool q4) ∧ w'.cell? ⟨P7, 1, none⟩ = some (.slice a4 l4 c4) ∧ w'.cell? ⟨P7, 2, none⟩ = some (.int .i64 x4) ∧ w'.cell? ⟨P8, 0, none⟩ = some (.bool q8) ∧ w'.cell? ⟨P8, 1, none⟩ = some (.slice a8 l8 c8) ∧ w'.cell? ⟨P8, 2, none⟩ = some (.int .i64 x8) ∧ w'.cell? ⟨P9, 0, none⟩ = some (.bool qb) ∧ w'.cell? ⟨P9, 1, none⟩ = some (.slice ab_ lb_ cb_) ∧ w'.cell? ⟨P9, 2, none⟩ = some (.int .i64 xb)) (((w'.setCell ⟨w.heap.size + 1 + 1, 0, none⟩ (.bool n)).setCell ⟨w.heap.size + 1 + 1, 1, none⟩ v).setCell ⟨w.heap.size + 1 + 1, 2, none⟩ (.int .i64 e)) := fun w' n v e hw => by
    have p := (X7.below hw).x.putO (B := w.heap.size + 1 + 1) (by omega) n v e
    have q := (X8.below hw).x.putO (B := w.heap.size + 1 + 1) (by omega) n v e
    have r := (X9.below hw).x.putO (B := w.heap.size + 1 + 1) (by omega) n v e
    unfold putD at p q r
    exact ⟨p.c0, p.c1, p.c2, q.c0, q.c1, q.c2, r.c0, r.c1, r.c2⟩
  clear g7 g8 g9 k1 k2 k3 k4 k5 k7 k8 k9 k10 k11 t5 t8
  go_region_held3 (fun w' => w'.cell? ⟨P7, 0, none⟩ = some (.bool q4) ∧ w'.cell? ⟨P7, 1, none⟩ = some (.slice a4 l4 c4) ∧ w'.cell? ⟨P7, 2, none⟩ = some (.int .i64 x4) ∧ w'.cell? ⟨P8, 0, none⟩ = some (.bool q8) ∧ w'.cell? ⟨P8, 1, none⟩ = some (.slice a8 l8 c8) ∧ w'.cell? ⟨P8, 2, none⟩ = some (.int .i64 x8) ∧ w'.cell? ⟨P9, 0, none⟩ = some (.bool qb) ∧ w'.cell? ⟨P9, 1, none⟩ = some (.slice ab_ lb_ cb_) ∧ w'.cell? ⟨P9, 2, none⟩ = some (.int .i64 xb)) (first | exact mk _ (by assumption) | exact mk2 _ _ _ _ (by assumption))
    ((first | (go_at_call 63; (with_reducible refine kA.mono ?_); rintro r wA ⟨⟨nA, vA, xA, rfl, hA⟩, hbA'⟩; have hbA : Below V.heap.size V wA := bD.trans hbA') | (go_at_call 63; (with_reducible refine (kB wA nA vA xA hbA hA).mono ?_); rintro r wZ ⟨⟨nZ, vZ, xZ, rfl, hR6⟩, hb6⟩; obtain ⟨aZ, lZ, cZ, rfl⟩ := hR6.shape; have p6 := (S.below hb6).br; have o0 := p6.c0; have o1 := p6.c1; have o2 := p6.c2; have z0 := p6.fz 0; have z1 := p6.fz 1; have z2 := p6.fz 2)))
  have p7 := p6.put nZ (.slice aZ lZ cZ) xZ
  have hR7 := hR6.keep p6 (fun _ hn => putD_blk wZ hn nZ (.slice aZ lZ cZ) xZ)
  have hB7 := putD_below (S.below hb6).be (B := w.heap.size + 1 + 1) (by omega) nZ (.slice aZ lZ cZ) xZ
  unfold putD at p7 hR7 hB7
  go_wp2_with fail
  exact bodyPost_ret_by (v := dyv nZ (.slice aZ lZ cZ) xZ) (dy_results rfl p7 rfl) rfl ⟨⟨nZ, _, xZ, rfl, hR7⟩, hB7⟩
end Go.Proofs.YtdccjlaneobldaaDoor.N
