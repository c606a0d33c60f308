/- (*digits).takeOut. -/
import Derived.Test.YtceonncbflmciaaTake
namespace Go.Proofs.Ytceonncbflmciaa
open Go.RowKit Go.Shelf

theorem Own.mid {W : World} {n₀ g len cap : Nat} {P M Q : List Nat} (h : Own W n₀ (.slice (some ⟨g, 0, none⟩) len cap) (P ++ M ++ Q)) : Digs W (.slice (some ⟨g, P.length, none⟩) M.length (cap - P.length)) M := by
  have hl := h.len_le
  have hll : (P ++ M ++ Q).length = P.length + M.length + Q.length := by rw [List.length_append, List.length_append]
  have hs := (small_append.1 (small_append.1 h.1).1).2
  refine ⟨hs, by have := h.2.1; omega, .inr ⟨g, P.length, cap - P.length, rfl, by omega, fun j hj => ?_⟩⟩
  rw [h.cellAt (P.length + j) (by omega)]
  rw [List.append_assoc, List.getElem?_append_right (by omega), show P.length + j - P.length = j by omega, List.getElem?_append_left hj]

/-- What comes of a guess that is right, or once too often. -/
theorem take_zero {U V x vM' k : Nat} (hlo : U / V ≤ x) (hhi : x ≤ U / V + 1) (hV : 0 < V) (he : vM' + x * V = U) : x = U / V ∧ vM' = U % V ∧ k = k := by
  have hdm := Nat.div_add_mod U V
  have hml := Nat.mod_lt U hV
  have hx : x = U / V := by
    apply Classical.byContradiction
    intro hn
    have h1 : x = U / V + 1 := by omega
    rw [h1, Nat.add_mul, Nat.one_mul, Nat.mul_comm] at he
    omega
  refine ⟨hx, ?_, rfl⟩
  rw [hx, Nat.mul_comm] at he
  omega
theorem take_one {U V x vM' vM'' E c' : Nat} (hlo : U / V ≤ x) (hhi : x ≤ U / V + 1) (hV : 0 < V) (hVE : V ≤ E) (hM' : vM' < E) (hM'' : vM'' < E) (he : vM' + x * V = U + E) (ha : vM'' + E * c' = vM' + V) : x = U / V + 1 ∧ vM'' = U % V := by
  have hdm := Nat.div_add_mod U V
  have hml := Nat.mod_lt U hV
  have hx : x = U / V + 1 := by
    apply Classical.byContradiction
    intro hn
    have h1 : x = U / V := by omega
    rw [h1, Nat.mul_comm] at he
    omega
  refine ⟨hx, ?_⟩
  rw [hx, Nat.add_mul, Nat.one_mul, Nat.mul_comm (U / V)] at he
  rcases Nat.eq_zero_or_pos c' with h0 | h0
  · rw [h0, Nat.mul_zero] at ha; omega
  · rcases Nat.lt_or_ge c' 2 with h1 | h1
    · have : c' = 1 := by omega
      rw [this, Nat.mul_one] at ha; omega
    · have := Nat.mul_le_mul_left E h1
      omega
theorem take_pos {U V x vM' E : Nat} (hM' : vM' < E) (he : vM' + x * V = U + E) : 0 < x := by
  rcases Nat.eq_zero_or_pos x with h0 | h0
  · rw [h0, Nat.zero_mul] at he; omega
  · exact h0

set_option maxRecDepth 100000 in
set_option maxHeartbeats 4000000 in
/-- d.takeOut(at, n): how often n goes into the digits from at on, and what is left of them. -/
theorem takeOut_c (w : World) (B n₀ g len cap : Nat) (P M Q N : List Nat) (vn : Value) (hB : Boxed w B 43 (.slice (some ⟨g, 0, none⟩) len cap)) (ho : Own w n₀ (.slice (some ⟨g, 0, none⟩) len cap) (P ++ M ++ Q))
    (hM : M.length = N.length + 1) (hN : Digs w vn N) (hNb : ∀ b off cap, vn = .slice (some ⟨b, off, none⟩) N.length cap → 0 < N.length → b < n₀) (hk : 2 ≤ N.length) (hf : 2147483648 ≤ N[N.length - 1]?.getD 0) :
    Calls Try.prog 48 #[.pointer (some ⟨B, 0, none⟩), .int .i64 (P.length : Int), vn] w fun e w' =>
      (∃ M' t, e = .returned (.int .u32 ((t : Nat) : Int)) ∧ t < 4294967296 ∧ M'.length = M.length ∧ (val M < 4294967296 * val N → t = val M / val N ∧ val M' = val M % val N) ∧ Own w' n₀ (.slice (some ⟨g, 0, none⟩) len cap) (P ++ M' ++ Q)) ∧ w.grownBy w' (some g) := by
  obtain ⟨an, cn, rfl, hcn⟩ := hN.shape
  obtain ⟨hlen, hcap⟩ := ho.len_le
  have hlim := ho.2.1
  have hl1 : (P ++ M ++ Q).length = P.length + M.length + Q.length := by rw [List.length_append, List.length_append]
  have hng := ho.base_le
  have hBc := hB.cell
  have hNl := hN.2.1
  have hgl : g < w.heap.size := by
    have := lt_of_cell (ho.cellAt 0 (by omega))
    simpa using this
  have hle1 : P.length + N.length + 1 ≤ len := by omega
  have hle2 : len ≤ cap := by omega
  have hle3 : len ≤ 1000000 := by omega
  have hmid := ho.mid
  rw [hM] at hmid
  have hMs : small M := hmid.1
  have HM : Hid (M.length = N.length + 1) := hM
  have hUb : val M < 4294967296 ^ (N.length + 1) := by rw [← hM]; exact val_lt hMs
  have hVb : val N < 4294967296 ^ (N.length + 1) := Nat.lt_of_lt_of_le (val_lt hN.1) (Nat.pow_le_pow_right (by omega) (by omega))
  have hV0 : 0 < val N := by
    rcases Nat.eq_zero_or_pos (val N) with h0 | h0
    · obtain ⟨lo, _, e⟩ := top2 N N.length hN.1 hk rfl
      have h2 : 0 < (4294967296 : Nat) ^ (N.length - 2) := Nat.pow_pos (by omega)
      have h3 : 4294967296 ^ (N.length - 2) * 1 ≤ 4294967296 ^ (N.length - 2) * (N[N.length - 2]?.getD 0 + 4294967296 * N[N.length - 1]?.getD 0) := Nat.mul_le_mul_left _ (by omega)
      omega
    · exact h0
  have HUB : Hid (val M < 4294967296 ^ (N.length + 1)) := hUb
  have HVB : Hid (val N < 4294967296 ^ (N.length + 1)) := hVb
  clear hlen hcap hlim hl1 hM hUb hVb
  have hgr0 : w.grownBy (w.alloc (.cells #[.slice (some ⟨g, P.length, none⟩) (N.length + 1) (cap - P.length)] 43)) (some g) := World.grownBy_alloc w _ _
  have hbb0 : Below w.heap.size w (w.alloc (.cells #[.slice (some ⟨g, P.length, none⟩) (N.length + 1) (cap - P.length)] 43)) := (Below.refl _ w).alloc (Nat.le_refl _) _
  have bP := Boxed.new w 43 (.slice (some ⟨g, P.length, none⟩) (N.length + 1) (cap - P.length))
  go_enter Try.func48, Try.ntmps48
  go_wp2_with fail
  rw [show P.length + N.length + 1 - P.length = N.length + 1 by omega]
  have hM1 := hmid.below hbb0 (Nat.le_refl _)
  have hN1 := hN.below hbb0 (Nat.le_refl _)
  have ho1 := ho.below hbb0 (Nat.le_refl _)
  generalize w.alloc (.cells #[.slice (some ⟨g, P.length, none⟩) (N.length + 1) (cap - P.length)] 43) = W1 at *
  refine (guess_c _ _ M N W1 hM1 hN1 hk HM.out hf).mono ?_
  rintro e w2 ⟨⟨x, rfl, hx, hxp⟩, hb2⟩
  have HXP : Hid (val M < 4294967296 * val N → val M / val N ≤ x ∧ x ≤ val M / val N + 1) := hxp
  have ho2 := ho1.below hb2 (Nat.le_refl _)
  have hN2 := hN1.below hb2 (Nat.le_refl _)
  have bP2 := boxed_below bP hb2 (Nat.le_refl _)
  have hgr2 : w.grownBy w2 (some g) := hgr0.trans ⟨hb2.os, hb2.tape, hb2.output, hb2.size, fun k hk _ => hb2.block k hk⟩
  clear hxp hM1 hN1 ho1 hb2 hmid hgr0 hbb0 bP
  go_wp2_with fail
  rw [← HM.out] at bP2
  refine (subTimes_c w2 w.heap.size n₀ g len cap (cap - P.length) x P M Q N _ hx bP2 ho2 HM.out hN2 hNb).mono ?_
  rintro e w3 ⟨⟨M1, b', rfl, hb', hl1, hv1, ho3, hB3⟩, hg3⟩
  have hgr3 := hgr2.trans hg3
  have hM1s : val M1 < 4294967296 ^ (N.length + 1) := by
    rw [← HM.out, ← hl1]; exact val_lt ho3.mid.1
  have HL1 : Hid (M1.length = M.length) := hl1
  have HM1S : Hid (val M1 < 4294967296 ^ (N.length + 1)) := hM1s
  clear hl1 hM1s
  rcases Nat.le_one_iff_eq_zero_or_eq_one.1 hb' with rfl | rfl
  · have HV1 : Hid (val M1 + x * val N = val M) := by show _ = _; rw [Nat.mul_zero, Nat.add_zero] at hv1; exact hv1
    clear hv1
    rw [show decide ((0 : Nat) = 1) = false from rfl]
    go_wp2
    go_ret
    refine ⟨⟨M1, x, rfl, hx, HL1.out, fun hlt => ?_, ho3⟩, hgr3⟩
    have h1 := HXP.out hlt
    have h2 := take_zero (k := 0) h1.1 h1.2 hV0 HV1.out
    exact ⟨h2.1, h2.2.1⟩
  · have HV1 : Hid (val M1 + x * val N = val M + 4294967296 ^ (N.length + 1)) := by show _ = _; rw [Nat.mul_one] at hv1; exact hv1
    clear hv1
    have hx1 : 1 ≤ x := take_pos HM1S.out HV1.out
    have hN3 : Digs w3 (.slice an N.length cn) N := by
      obtain ⟨h1, h2, h3⟩ := hN2
      refine ⟨h1, h2, ?_⟩
      rcases h3 with h3 | ⟨b, off, c, e, hc, hj⟩
      · exact .inl h3
      · refine .inr ⟨b, off, c, e, hc, fun j hlt => hg3.cell (a := ⟨b, off + j, none⟩) (hj j hlt) ?_⟩
        have := hNb b off c e (by omega)
        simp; omega
    rw [show decide ((1 : Nat) = 1) = true from rfl]
    go_wp2_with fail
    rw [← HL1.out] at hB3
    refine (addBack_c w3 w.heap.size n₀ g len cap (cap - P.length) P M1 Q N _ hB3 ho3 (HL1.out.trans HM.out) hN3 hNb).mono ?_
    rintro e w4 ⟨rfl, ⟨M2, c', hl2, hv2, ho4, hB4⟩, hg4⟩
    have hM2s : val M2 < 4294967296 ^ (N.length + 1) := by
      rw [← HM.out, ← HL1.out, ← hl2]; exact val_lt ho4.mid.1
    have HM2S : Hid (val M2 < 4294967296 ^ (N.length + 1)) := hM2s
    have HV2 : Hid (val M2 + 4294967296 ^ (N.length + 1) * c' = val M1 + val N) := hv2
    have HL2 : Hid (M2.length = M1.length) := hl2
    clear hl2 hv2 hM2s
    go_wp2
    go_ret
    refine ⟨⟨M2, x - 1, ret_one (by omega), by omega, HL2.out.trans HL1.out, fun hlt => ?_, ho4⟩, hgr3.trans hg4⟩
    have h1 := HXP.out hlt
    have h2 := take_one h1.1 h1.2 hV0 (Nat.le_of_lt HVB.out) HM1S.out HM2S.out HV1.out HV2.out
    exact ⟨by omega, h2.2⟩
end Go.Proofs.Ytceonncbflmciaa
