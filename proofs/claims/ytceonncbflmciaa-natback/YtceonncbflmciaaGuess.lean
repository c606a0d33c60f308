/- nat.guess: how often a number goes into one with one digit more, by the highest digits: rightly, or once too often. -/
import Derived.Deep.QuietTactic
import Derived.BigQuiet
import Derived.Test.YtceonncbflmciaaMul
import Derived.Test.YtceonncbflmciaaShrMath
namespace Go.Proofs.Ytceonncbflmciaa
open Go.RowKit Go.Shelf

/-- What the highest digits tell of a number. -/
theorem top3 (M : List Nat) (k : Nat) (hs : small M) (hk : 2 ≤ k) (hl : M.length = k + 1) : ∃ lo, lo < 4294967296 ^ (k - 2) ∧ val M = lo + 4294967296 ^ (k - 2) * (M[k - 2]?.getD 0 + 4294967296 * (M[k - 1]?.getD 0 + 4294967296 * M[k]?.getD 0)) := by
  refine ⟨val (M.take (k - 2)), ?_, ?_⟩
  · have := val_lt (small_take (k - 2) hs)
    rwa [List.length_take, show min (k - 2) M.length = k - 2 from by omega] at this
  · have h3 := val_take_succ M (k - 2)
    have h2 := val_take_succ M (k - 2 + 1)
    have h1 := val_take_succ M (k - 2 + 1 + 1)
    rw [List.take_of_length_le (by omega)] at h1
    rw [h1, h2, h3, show k - 2 + 1 = k - 1 by omega, show k - 1 + 1 = k by omega]
    have e1 : (4294967296 : Nat) ^ (k - 1) = 4294967296 ^ (k - 2) * 4294967296 := by rw [← Nat.pow_succ]; congr 1; omega
    have e2 : (4294967296 : Nat) ^ k = 4294967296 ^ (k - 2) * 4294967296 * 4294967296 := by rw [← Nat.pow_succ, ← Nat.pow_succ]; congr 1; omega
    rw [e1, e2]
    simp only [Nat.mul_add, Nat.mul_assoc]
    omega
theorem top2 (N : List Nat) (k : Nat) (hs : small N) (hk : 2 ≤ k) (hl : N.length = k) : ∃ lo, lo < 4294967296 ^ (k - 2) ∧ val N = lo + 4294967296 ^ (k - 2) * (N[k - 2]?.getD 0 + 4294967296 * N[k - 1]?.getD 0) := by
  refine ⟨val (N.take (k - 2)), ?_, ?_⟩
  · have := val_lt (small_take (k - 2) hs)
    rwa [List.length_take, show min (k - 2) N.length = k - 2 from by omega] at this
  · have h2 := val_take_succ N (k - 2)
    have h1 := val_take_succ N (k - 2 + 1)
    rw [List.take_of_length_le (by omega)] at h1
    rw [h1, h2, show k - 2 + 1 = k - 1 by omega]
    have e1 : (4294967296 : Nat) ^ (k - 1) = 4294967296 ^ (k - 2) * 4294967296 := by rw [← Nat.pow_succ]; congr 1; omega
    rw [e1]
    simp only [Nat.mul_add, Nat.mul_assoc]
    omega

/-- The guess is not too low: with p = 2 to the power of 32 (k - 2), U the number, V the divisor. -/
theorem guess_first (p lo vlo h l f s Q U V : Nat) (hlo : lo < p) (hl : l < 4294967296) (hU : U = lo + p * (l + 4294967296 * h)) (hV : V = vlo + p * (s + 4294967296 * f)) (hQ : Q * V ≤ U) (hf : 0 < f) : Q ≤ h / f := by
  rw [Nat.le_div_iff_mul_le hf]
  apply Classical.byContradiction
  intro hc
  have h1 : h + 1 ≤ Q * f := by omega
  have h2 : Q * (p * (4294967296 * f)) ≤ Q * V := Nat.mul_le_mul_left _ (by rw [hV, Nat.mul_add]; omega)
  have h3 : Q * (p * (4294967296 * f)) = p * (4294967296 * (Q * f)) := by simp only [Nat.mul_comm, Nat.mul_left_comm, Nat.mul_assoc]
  have h4 : p * (4294967296 * (h + 1)) ≤ p * (4294967296 * (Q * f)) := Nat.mul_le_mul_left _ (Nat.mul_le_mul_left _ h1)
  have h5 : p * (l + 4294967296 * h + 1) ≤ p * (4294967296 * (h + 1)) := Nat.mul_le_mul_left _ (by omega)
  rw [Nat.mul_add p (l + 4294967296 * h) 1] at h5
  omega
/-- One less, if what the second digit asks is too much. -/
theorem guess_less (p lo vlo h l f s q r Q U V : Nat) (hlo : lo < p) (hU : U = lo + p * (l + 4294967296 * h)) (hV : V = vlo + p * (s + 4294967296 * f)) (hQ : Q * V ≤ U) (hqr : q * f + r = h) (hc : r * 4294967296 + l < q * s) : Q < q := by
  apply Classical.byContradiction
  intro hn
  have h1 : q * V ≤ Q * V := Nat.mul_le_mul_right _ (by omega)
  have h2 : q * (p * (s + 4294967296 * f)) ≤ q * V := Nat.mul_le_mul_left _ (by rw [hV]; omega)
  have h3 : q * (p * (s + 4294967296 * f)) = p * (q * s + 4294967296 * (q * f)) := by
    rw [Nat.mul_left_comm, Nat.mul_add, Nat.mul_left_comm q 4294967296 f]
  have h4 : p * (l + 4294967296 * h + 1) ≤ p * (q * s + 4294967296 * (q * f)) := Nat.mul_le_mul_left _ (by omega)
  rw [Nat.mul_add p (l + 4294967296 * h) 1] at h4
  omega
/-- At the end it is once too often at most. -/
theorem guess_end (p lo vlo h l f s q r Q U V : Nat) (hvlo : vlo < p) (hf : 2147483648 ≤ f) (hU : U = lo + p * (l + 4294967296 * h)) (hV : V = vlo + p * (s + 4294967296 * f)) (hQ : U < (Q + 1) * V) (hqr : q * f + r = h) (hq : q < 4294967296) (hc : q * s ≤ r * 4294967296 + l) : q ≤ Q + 1 := by
  apply Classical.byContradiction
  intro hn
  have h1 : (Q + 1) * V ≤ (q - 1) * V := Nat.mul_le_mul_right _ (by omega)
  have h2 : q * V = (q - 1) * V + V := by
    have : q = (q - 1) + 1 := by omega
    conv => lhs; rw [this, Nat.add_mul, Nat.one_mul]
  have h3 : q * V = q * vlo + p * (q * s + 4294967296 * (q * f)) := by
    rw [hV, Nat.mul_add, Nat.mul_left_comm q p, Nat.mul_add q, Nat.mul_left_comm q 4294967296 f]
  have h4 : p * (q * s + 4294967296 * (q * f)) ≤ p * (l + 4294967296 * h) := Nat.mul_le_mul_left _ (by omega)
  have h5 : q * vlo ≤ 4294967295 * p := Nat.mul_le_mul (by omega) (by omega)
  have h6 : p * 4294967296 ≤ p * (s + 4294967296 * f) := Nat.mul_le_mul_left _ (by omega)
  omega
/-- If r is great, the second digit asks for no less. -/
theorem guess_great (q r s l : Nat) (hq : q < 4294967296) (hs : s < 4294967296) (hr : 4294967296 ≤ r) : q * s ≤ r * 4294967296 + l := by
  have := Nat.mul_le_mul (show q ≤ 4294967296 by omega) (show s ≤ 4294967296 by omega)
  omega
theorem guess_small (q f r h u0 u1 : Nat) (hh : h = u1 + 4294967296 * u0) (hu1 : u1 < 4294967296) (hu0 : u0 ≤ f) (hqr : q * f + r = h) (hr : 4294967296 ≤ r) : q < 4294967296 := by
  apply Classical.byContradiction
  intro hn
  have := Nat.mul_le_mul_right f (show 4294967296 ≤ q by omega)
  omega
theorem guess_top (p lo vlo u0 u1 u2 f s U V : Nat) (hvlo : vlo < p) (hs : s < 4294967296) (hU : U = lo + p * (u2 + 4294967296 * (u1 + 4294967296 * u0))) (hV : V = vlo + p * (s + 4294967296 * f)) (hlt : U < 4294967296 * V) : u0 ≤ f := by
  apply Classical.byContradiction
  intro hn
  have h1 : p * (4294967296 * (4294967296 * (f + 1))) ≤ p * (u2 + 4294967296 * (u1 + 4294967296 * u0)) := Nat.mul_le_mul_left _ (by omega)
  have h2 : V < p * (4294967296 * (f + 1)) := by
    have : p * (s + 4294967296 * f + 1) ≤ p * (4294967296 * (f + 1)) := Nat.mul_le_mul_left _ (by omega)
    rw [Nat.mul_add p (s + 4294967296 * f) 1] at this
    omega
  have h3 : p * (4294967296 * (4294967296 * (f + 1))) = 4294967296 * (p * (4294967296 * (f + 1))) := Nat.mul_left_comm _ _ _
  omega

theorem guess_step {q f r h : Nat} (h1 : q * f + r = h) (hq : 0 < q) : (q - 1) * f + (r + f) = h := by
  have e : q = (q - 1) + 1 := by omega
  rw [e, Nat.add_mul, Nat.one_mul] at h1
  omega
theorem or_pair (a b : Nat) (ha : a < 4294967296) (hb : b < 4294967296) : bits BinOp.or IntKind.u64 ((a : Int) * 4294967296) (b : Int) = ((b + 4294967296 * a : Nat) : Int) := by
  have e : ((a : Int) * 4294967296) = ((2 ^ 32 * a : Nat) : Int) := by omega
  rw [e, u64_or_nat _ _ (by omega) (by omega), ← Nat.two_pow_add_eq_or_of_lt (show b < 2 ^ 32 by omega)]
  congr 1
  omega

set_option maxRecDepth 100000 in
set_option maxHeartbeats 4000000 in
theorem guess_c (vp vn : Value) (M N : List Nat) (w : World) (hM : Digs w vp M) (hN : Digs w vn N) (hk : 2 ≤ N.length) (hl : M.length = N.length + 1) (hf : 2147483648 ≤ N[N.length - 1]?.getD 0) :
    Calls Try.prog 52 #[vp, vn] w fun e w' => (∃ x, e = .returned (.int .u32 ((x : Nat) : Int)) ∧ x < 4294967296 ∧ (val M < 4294967296 * val N → val M / val N ≤ x ∧ x ≤ val M / val N + 1)) ∧ Below w.heap.size w w' := by
  obtain ⟨bm, om, cm, rfl, hbm, hcm⟩ := hM.cell (by omega)
  obtain ⟨bn, on, cn, rfl, hbn, hcn⟩ := hN.cell (by omega)
  have hlN := hN.2.1
  obtain ⟨k, hkk⟩ : ∃ k, N.length = k := ⟨_, rfl⟩
  rw [hl, hkk]
  rw [hkk] at hk hf hlN
  have hc1 := hcn (k - 1) (by omega)
  have hc2 := hcn (k - 2) (by omega)
  have hc3 := hcm k (by omega)
  have hc4 := hcm (k - 1) (by omega)
  have hc5 := hcm (k - 2) (by omega)
  obtain ⟨f, hfe⟩ : ∃ f, N[k - 1]?.getD 0 = f := ⟨_, rfl⟩
  obtain ⟨s, hse⟩ : ∃ s, N[k - 2]?.getD 0 = s := ⟨_, rfl⟩
  obtain ⟨u0, hu0e⟩ : ∃ u, M[k]?.getD 0 = u := ⟨_, rfl⟩
  obtain ⟨u1, hu1e⟩ : ∃ u, M[k - 1]?.getD 0 = u := ⟨_, rfl⟩
  obtain ⟨u2, hu2e⟩ : ∃ u, M[k - 2]?.getD 0 = u := ⟨_, rfl⟩
  have hfs : f < 4294967296 := by rw [← hfe]; exact small_getD hN.1 _
  have hss : s < 4294967296 := by rw [← hse]; exact small_getD hN.1 _
  have hu0 : u0 < 4294967296 := by rw [← hu0e]; exact small_getD hM.1 _
  have hu1 : u1 < 4294967296 := by rw [← hu1e]; exact small_getD hM.1 _
  have hu2 : u2 < 4294967296 := by rw [← hu2e]; exact small_getD hM.1 _
  obtain ⟨lo, hlo, hU⟩ := top3 M k hM.1 hk (by omega)
  obtain ⟨vlo, hvlo, hV⟩ := top2 N k hN.1 hk hkk
  rw [hfe] at hc1 hf hV
  rw [hse] at hc2 hV
  rw [hu0e] at hc3 hU
  rw [hu1e] at hc4 hU
  rw [hu2e] at hc5 hU
  have HU : Hid (val M = lo + 4294967296 ^ (k - 2) * (u2 + 4294967296 * (u1 + 4294967296 * u0))) := hU
  have HV : Hid (val N = vlo + 4294967296 ^ (k - 2) * (s + 4294967296 * f)) := hV
  have HLO : Hid (lo < 4294967296 ^ (k - 2)) := hlo
  have HVLO : Hid (vlo < 4294967296 ^ (k - 2)) := hvlo
  clear hU hV hlo hvlo hfe hse hu0e hu1e hu2e hcm hcn hM hN hkk hl
  generalize val M = U at *
  generalize val N = V at *
  have hwf : IntKind.u64.wrap (f : Int) = (f : Int) := by rw [IntKind.wrap_u64]; omega
  have hws : IntKind.u64.wrap (s : Int) = (s : Int) := by rw [IntKind.wrap_u64]; omega
  have hw0 : IntKind.u64.wrap (u0 : Int) = (u0 : Int) := by rw [IntKind.wrap_u64]; omega
  have hw1 : IntKind.u64.wrap (u1 : Int) = (u1 : Int) := by rw [IntKind.wrap_u64]; omega
  have hw2 : IntKind.u64.wrap (u2 : Int) = (u2 : Int) := by rw [IntKind.wrap_u64]; omega
  have hki1 : (0 : Int) ≤ (k : Int) - 1 := by omega
  have hki2 : (0 : Int) ≤ (k : Int) - 2 := by omega
  go_enter Try.func52, Try.ntmps52
  go_wp2
  go_quiet (fail)
  go_wp2
  go_quiet (fail)
  go_wp2
  rw [or_pair u0 u1 hu0 hu1]
  obtain ⟨h, hh⟩ : ∃ h, u1 + 4294967296 * u0 = h := ⟨_, rfl⟩
  rw [hh]
  have hhl : h < 18446744073709551616 := by omega
  have HH : Hid (u1 + 4294967296 * u0 = h) := hh
  clear hh
  have hf0 : ¬ f = 0 := by omega
  have hf1 : (1 : Int) ≤ (f : Int) := by omega
  go_quiet (fail)
  have hdm := Nat.div_add_mod h f
  have hml := Nat.mod_lt h (show 0 < f by omega)
  have hdl : h / f ≤ 8589934592 := by
    have := Nat.div_le_div_left hf (show 0 < 2147483648 by omega) (a := h)
    omega
  rw [show ((h : Int) / (f : Int)) = ((h / f : Nat) : Int) from (Int.natCast_ediv h f).symm, show ((h : Int) % (f : Int)) = ((h % f : Nat) : Int) from (Int.natCast_emod h f).symm]
  have HDM : Hid (h / f * f + h % f = h) := by show _ = _; rw [Nat.mul_comm]; exact hdm
  have HQ0 : Hid (U < 4294967296 * V → U / V ≤ h / f) := fun hlt => guess_first _ lo vlo h u2 f s (U / V) U V HLO.out hu2 (by rw [HU.out, HH.out]) HV.out (Nat.div_mul_le_self U V) (by omega)
  clear hdm
  obtain ⟨q0, hq0⟩ : ∃ q, h / f = q := ⟨_, rfl⟩
  obtain ⟨r0, hr0⟩ : ∃ r, h % f = r := ⟨_, rfl⟩
  rw [hq0, hr0] at HDM
  rw [hq0] at HQ0 hdl ⊢
  rw [hr0] at hml ⊢
  clear hq0 hr0
  rw [show IntKind.u64.wrap (q0 : Int) = (q0 : Int) by rw [IntKind.wrap_u64]; omega]
  go_wp2
  go_loop [10, 11] (fun tq tr => ∃ q r : Nat, tq = .int .u64 (q : Int) ∧ tr = .int .u64 (r : Int) ∧ q * f + r = h ∧ (U < 4294967296 * V → U / V ≤ q) ∧ r < 8589934592 ∧ q ≤ 8589934592) (fun _ tr => 8589934592 - (intOf tr).toNat)
  case atStart => exact ⟨q0, r0, rfl, rfl, HDM.out, HQ0.out, by omega, hdl⟩
  case round =>
    obtain ⟨q, r, rfl, rfl, hqr, hQ, hr, hq⟩ := hrel
    have HQR : Hid (q * f + r = h) := hqr
    have HQ : Hid (U < 4294967296 * V → U / V ≤ q) := hQ
    clear hqr hQ HDM HQ0
    by_cases c1 : r < 4294967296
    · have d1 : decide ((r : Int) < 4294967296) = true := by simp; omega
      by_cases c2 : 4294967296 ≤ q
      · have d2 : decide ((4294967296 : Int) ≤ (q : Int)) = true := by simp; omega
        go_wp2
        have hst := guess_step HQR.out (show 0 < q by omega)
        refine ⟨⟨q - 1, by omega, r + f, by omega, hst, ?_, by omega, by omega⟩, by simp [intOf]; omega⟩
        intro hlt
        have := HQ.out hlt
        have h2 : U / V < 4294967296 := Nat.div_lt_of_lt_mul (by rw [Nat.mul_comm]; exact hlt)
        omega
      · have d2 : decide ((4294967296 : Int) ≤ (q : Int)) = false := by simp; omega
        obtain ⟨t, ht⟩ : ∃ t, u2 + 4294967296 * r = t := ⟨_, rfl⟩
        have hor := or_pair r u2 c1 hu2
        rw [ht] at hor
        have HT : Hid (u2 + 4294967296 * r = t) := ht
        have htl : t < 18446744073709551616 := by omega
        obtain ⟨hp1, hp0⟩ := mul_int q s (by omega) hss
        by_cases c3 : r * 4294967296 + u2 < q * s
        · have d3 : (t : Int) < (q : Int) * (s : Int) := by
            rw [← Int.natCast_mul]; omega
          have HC3 : Hid (r * 4294967296 + u2 < q * s) := c3
          have hq1 : 1 ≤ q := by
            rcases Nat.eq_zero_or_pos q with h0 | h0
            · rw [h0, Nat.zero_mul] at c3; omega
            · exact h0
          clear c3 ht
          go_wp2
          have hst := guess_step HQR.out hq1
          refine ⟨⟨q - 1, by omega, r + f, by omega, hst, ?_, by omega, by omega⟩, by simp [intOf]; omega⟩
          intro hlt
          have := guess_less _ lo vlo h u2 f s q r (U / V) U V HLO.out (by rw [HU.out, HH.out]) HV.out (Nat.div_mul_le_self U V) HQR.out HC3.out
          omega
        · have d3 : ¬ (t : Int) < (q : Int) * (s : Int) := by
            rw [← Int.natCast_mul]; omega
          have HC3 : Hid (¬ r * 4294967296 + u2 < q * s) := c3
          clear c3 ht
          go_wp2
          go_ret
          refine ⟨⟨q, rfl, by omega, fun hlt => ⟨HQ.out hlt, ?_⟩⟩, by repeat (first | exact Below.refl _ _ | apply below_drewN)⟩
          have hV0 : 0 < V := by rcases Nat.eq_zero_or_pos V with h0 | h0
                                 · rw [h0] at hlt; omega
                                 · exact h0
          exact guess_end _ lo vlo h u2 f s q r (U / V) U V HVLO.out hf (by rw [HU.out, HH.out]) HV.out (Nat.lt_mul_of_div_lt (Nat.lt_succ_self _) hV0) HQR.out (by omega) (by have := HC3.out; omega)
    · have d1 : decide ((r : Int) < 4294967296) = false := by simp; omega
      go_wp2
      go_ret
      refine ⟨⟨q % 4294967296, ret_one (by omega), Nat.mod_lt _ (by omega), fun hlt => ?_⟩, by repeat (first | exact Below.refl _ _ | apply below_drewN)⟩
      have hV0 : 0 < V := by rcases Nat.eq_zero_or_pos V with h0 | h0
                             · rw [h0] at hlt; omega
                             · exact h0
      have hu0f := guess_top _ lo vlo u0 u1 u2 f s U V HVLO.out hss HU.out HV.out hlt
      have hqs := guess_small q f r h u0 u1 HH.out.symm hu1 hu0f HQR.out (by omega)
      rw [Nat.mod_eq_of_lt hqs]
      exact ⟨HQ.out hlt, guess_end _ lo vlo h u2 f s q r (U / V) U V HVLO.out hf (by rw [HU.out, HH.out]) HV.out (Nat.lt_mul_of_div_lt (Nat.lt_succ_self _) hV0) HQR.out hqs (guess_great q r s u2 hqs hss (by omega))⟩
end Go.Proofs.Ytceonncbflmciaa
