/- levellingref12.Often. -/
import Derived.Test.YtdccjlaneobldaaDoorRFactor
import Derived.Test.YtdccjlaneobldaaDoorAll
namespace Go.Proofs.YtdccjlaneobldaaDoor
open Go.RowKit Go.Shelf Rnd

theorem roften_results {W : World} {B : Nat} {c r t : Int} {sv : Value} (h : FBox W B c sv r t) {tmps : Array Value} {e : Int} (h6 : tmps.getD 6 undef = .pointer (some ⟨B, 0, none⟩)) (h7 : tmps.getD 7 undef = .int .i64 e) :
    (results Tryd.f12 tmps).run Tryd.prog W = .ok (.tuple #[fv c sv r t, .int .i64 e]) W := by
  have k0 := h.c0
  have k1 := h.c1
  have k2 := h.c2
  have k3 := h.c3
  rw [results_cell_tmp rfl, h6, h7]
  simp [go_sem, k0, k1, k2, k3]

set_option maxRecDepth 100000 in
set_option maxHeartbeats 8000000 in
theorem roften_yes (c r t : Int) (b k : Nat) (sv : Value) (xs : List Nat) (w : World) (hF : Fls w sv xs) (hb64 : b < 18446744073709551616) (hck : checkB c xs r t = true) (hb : mayB b = true) (hk : (k : Int) ≤ 4096 - t) :
    Calls Tryd.prog 12 #[fv c sv r t, fl b, .int .i64 (k : Int)] w fun e w' =>
      (∃ a len cap, e = .returned (.tuple #[fv c (.slice a len cap) r (t + k), .int .i64 0]) ∧ Fls w' (.slice a len cap) (fadeN b k xs)) ∧ Below w.heap.size w w' := by
  have htt := check_turns hck
  obtain ⟨sa, scap, rfl, hcap⟩ := hF.shape
  have hB : Below w.heap.size w ((w.alloc (fcells c (.slice sa xs.length scap) r t)).alloc (fcells 0 (.slice none 0 0) 0 0)) := ((Below.refl _ w).alloc (Nat.le_refl _) _).alloc (by simp) _
  have bF0 : FBox ((w.alloc (fcells c (.slice sa xs.length scap) r t)).alloc (fcells 0 (.slice none 0 0) 0 0)) w.heap.size c (.slice sa xs.length scap) r t := (FBox.new w _ _ _ _).below ((Below.refl _ _).alloc (Nat.le_refl _) _) (Nat.le_refl _)
  have bR0 : FBox ((w.alloc (fcells c (.slice sa xs.length scap) r t)).alloc (fcells 0 (.slice none 0 0) 0 0)) (w.heap.size + 1) 0 (.slice none 0 0) 0 0 := by
    have h := FBox.new (w.alloc (fcells c (.slice sa xs.length scap) r t)) 0 (.slice none 0 0) 0 0
    rw [World.size_alloc] at h; exact h
  have HCK : Hid (checkB c xs r t = true) := hck
  have HB : Hid (mayB b = true) := hb
  clear hck hb
  go_enter Tryd.func12, Tryd.ntmps12
  go_wp2_with fail
  refine (rcheck_c c r t _ xs _ (hF.below hB (Nat.le_refl _))).mono ?_
  rw [HCK.out]
  rintro e w1 ⟨rfl, hb1⟩
  have S : Sa w w1 c r t sa xs.length scap xs := ⟨hB.trans (hb1.mono hB.size), bF0.below hb1 (Nat.le_refl _), bR0.below hb1 (Nat.le_refl _), (hF.below hB (Nat.le_refl _)).below hb1 (Nat.le_refl _)⟩
  clear hb1 bF0 bR0 hB
  go_wp2_with fail
  refine (rmay_c b hb64 _).mono ?_
  rw [HB.out]
  rintro e w2 ⟨rfl, rfl⟩
  have x3 := S.bf.c3
  go_wp2_with fail
  clear x3
  go_loopw [8] (fun i wr => ∃ (j : Nat) (a : Option Addr) (ln cp : Nat), j ≤ k ∧ i = .int .i64 (j : Int) ∧ Sa w wr c r (t + j) a ln cp (fadeN b j xs)) (fun i _ => k - (intOf i).toNat)
  case atStart => exact ⟨0, _, _, _, Nat.zero_le _, by simp, by simpa [fadeN] using S⟩
  case round =>
    clear S
    obtain ⟨j, a, ln, cp, hj, rfl, S⟩ := hrel
    by_cases hlt : j < k
    · have hlt' : (j : Int) < (k : Int) := by omega
      have hO := rfactor_all c r (t + j) b _ (fadeN b j xs) wr S.f hb64
      unfold FadeC at hO
      have he : oE c (fadeN b j xs) r (t + j) b 1 = 0 := oE_yes (check_fadeN hF.1 HCK.out HB.out j _ (by omega) (by omega)) (by decide) HB.out (by omega)
      obtain ⟨e1, e2, e3, e4⟩ := o_yes he
      have e5 : fadeN b (1 : Int).toNat (fadeN b j xs) = fadeN b (j + 1) xs := rfl
      rw [e1, e2, e3, e4, he, e5] at hO
      have x0 := S.bf.c0
      have x1 := S.bf.c1
      have x2 := S.bf.c2
      have x3 := S.bf.c3
      clear e1 e2 e3 e4 e5 he
      go_wp2_with fail
      refine hO.mono ?_
      rintro e w4 ⟨⟨a', len', cap', rfl, hf⟩, hb⟩
      have S4 := S.below hb
      have hba : Below w4.heap.size w4 (w4.alloc (fcells c (.slice a' len' cap') r (t + j + 1))) := (Below.refl _ w4).alloc (Nat.le_refl _) _
      have S5 := S4.below hba
      have G5 := FBox.new w4 c (.slice a' len' cap') r (t + j + 1)
      have S6 := S5.put (c' := c) (r' := r) (t' := t + j + 1) (hf.below hba (Nat.le_refl _))
      unfold putF at S6
      have g0 := G5.c0
      have g1 := G5.c1
      have g2 := G5.c2
      have g3 := G5.c3
      have y0 := S5.bf.c0
      have y1 := S5.bf.c1
      have y2 := S5.bf.c2
      have y3 := S5.bf.c3
      have z0 := S5.bf.fz 0
      have z1 := S5.bf.fz 1
      have z2 := S5.bf.fz 2
      have z3 := S5.bf.fz 3
      clear x0 x1 x2 x3 S S4 hf hb hba
      go_wp2_with fail
      go_roundw
      case rel => exact ⟨j + 1, a', len', cap', by omega, by go_num, by rw [show t + ((j + 1 : Nat) : Int) = t + j + 1 by omega]; exact S6⟩
      case measure => simp [intOf]; omega
    · obtain rfl : j = k := by omega
      have x0 := S.bf.c0
      have x1 := S.bf.c1
      have x2 := S.bf.c2
      have x3 := S.bf.c3
      have r0 := S.br.c0
      have r1 := S.br.c1
      have r2 := S.br.c2
      have r3 := S.br.c3
      have z0 := S.br.fz 0
      have z1 := S.br.fz 1
      have z2 := S.br.fz 2
      have z3 := S.br.fz 3
      have b7 := S.br.put c (.slice a ln cp) r (t + j)
      have hB7 := putF_below S.be (B := w.heap.size + 1) (by omega) c (.slice a ln cp) r (t + j)
      have hF7 := S.f.putF S.br c (.slice a ln cp) r (t + j)
      unfold putF at b7 hB7 hF7
      go_wp2_with fail
      exact bodyPost_ret_by (v := .tuple #[fv c (.slice a ln cp) r (t + j), .int .i64 0]) (roften_results b7 rfl rfl) rfl ⟨⟨a, ln, cp, rfl, hF7⟩, hB7⟩

set_option maxRecDepth 100000 in
set_option maxHeartbeats 4000000 in
theorem roften_no (c r t k : Int) (b : Nat) (sv : Value) (xs : List Nat) (w : World) (hF : Fls w sv xs) (hb64 : b < 18446744073709551616) (he : oE c xs r t b k ≠ 0) :
    Calls Tryd.prog 12 #[fv c sv r t, fl b, .int .i64 k] w fun e w' => e = .returned (.tuple #[fv 0 (.slice none 0 0) 0 0, .int .i64 (oE c xs r t b k)]) ∧ Below w.heap.size w w' := by
  obtain ⟨sa, scap, rfl, hcap⟩ := hF.shape
  have hB : Below w.heap.size w ((w.alloc (fcells c (.slice sa xs.length scap) r t)).alloc (fcells 0 (.slice none 0 0) 0 0)) := ((Below.refl _ w).alloc (Nat.le_refl _) _).alloc (by simp) _
  have bF0 : FBox ((w.alloc (fcells c (.slice sa xs.length scap) r t)).alloc (fcells 0 (.slice none 0 0) 0 0)) w.heap.size c (.slice sa xs.length scap) r t := (FBox.new w _ _ _ _).below ((Below.refl _ _).alloc (Nat.le_refl _) _) (Nat.le_refl _)
  have bR0 : FBox ((w.alloc (fcells c (.slice sa xs.length scap) r t)).alloc (fcells 0 (.slice none 0 0) 0 0)) (w.heap.size + 1) 0 (.slice none 0 0) 0 0 := by
    have h := FBox.new (w.alloc (fcells c (.slice sa xs.length scap) r t)) 0 (.slice none 0 0) 0 0
    rw [World.size_alloc] at h; exact h
  obtain ⟨E, HE⟩ : ∃ E, Hid (oE c xs r t b k = E) := ⟨_, rfl⟩
  rw [HE.out] at he ⊢
  obtain ⟨ck, HCK⟩ : ∃ ck, Hid (checkB c xs r t = ck) := ⟨_, rfl⟩
  obtain ⟨mb, HB⟩ : ∃ mb, Hid (mayB b = mb) := ⟨_, rfl⟩
  go_enter Tryd.func12, Tryd.ntmps12
  go_wp2_with fail
  refine (rcheck_c c r t _ xs _ (hF.below hB (Nat.le_refl _))).mono ?_
  rw [HCK.out]
  rintro e w1 ⟨rfl, hb1⟩
  have bF1 := bF0.below hb1 (Nat.le_refl _)
  have bR1 := bR0.below hb1 (Nat.le_refl _)
  have B1 := hB.trans (hb1.mono hB.size)
  have r0 := bR1.c0
  have r1 := bR1.c1
  have r2 := bR1.c2
  have r3 := bR1.c3
  have z0 := bR1.fz 0
  have z1 := bR1.fz 1
  have z2 := bR1.fz 2
  have z3 := bR1.fz 3
  have b7 := bR1.put 0 (.slice none 0 0) 0 0
  have hB7 := putF_below B1 (B := w.heap.size + 1) (by omega) 0 (.slice none 0 0) 0 0
  unfold putF at b7 hB7
  clear hb1 bF0 bR0 hB
  cases ck with
  | false =>
    obtain rfl : E = 1 := by rw [← HE.out, oE_arg (.inl HCK.out)]
    clear he
    go_wp2_with fail
    exact bodyPost_ret_by (v := .tuple #[fv 0 (.slice none 0 0) 0 0, .int .i64 1]) (roften_results b7 rfl rfl) rfl ⟨rfl, hB7⟩
  | true =>
    have htt := check_turns HCK.out
    by_cases hk : k < 0
    · obtain rfl : E = 1 := by rw [← HE.out, oE_arg (.inr hk)]
      clear he
      go_wp2_with fail
      exact bodyPost_ret_by (v := .tuple #[fv 0 (.slice none 0 0) 0 0, .int .i64 1]) (roften_results b7 rfl rfl) rfl ⟨rfl, hB7⟩
    go_wp2_with fail
    refine (rmay_c b hb64 _).mono ?_
    rw [HB.out]
    rintro e w2 ⟨rfl, rfl⟩
    cases mb with
    | false =>
      obtain rfl : E = 12 := by rw [← HE.out, oE_may HCK.out (by omega) HB.out]
      clear he
      go_wp2_with fail
      exact bodyPost_ret_by (v := .tuple #[fv 0 (.slice none 0 0) 0 0, .int .i64 12]) (roften_results b7 rfl rfl) rfl ⟨rfl, hB7⟩
    | true =>
      have hfull : 4096 - t < k := by
        by_cases h : 4096 - t < k
        · exact h
        · exact absurd (by rw [← HE.out]; exact oE_yes HCK.out (by omega) HB.out (by omega)) he
      obtain rfl : E = 6 := by rw [← HE.out, oE_full HCK.out (by omega) HB.out (by omega)]
      have d3 := bF1.c3
      clear he
      go_wp2_with fail
      exact bodyPost_ret_by (v := .tuple #[fv 0 (.slice none 0 0) 0 0, .int .i64 6]) (roften_results b7 rfl rfl) rfl ⟨rfl, hB7⟩

theorem roften_all (c r t k : Int) (b : Nat) (sv : Value) (xs : List Nat) (w : World) (hF : Fls w sv xs) (hb64 : b < 18446744073709551616) :
    FadeC 12 #[fv c sv r t, fl b, .int .i64 k] w c xs r t b k := by
  unfold FadeC
  by_cases he : oE c xs r t b k = 0
  · obtain ⟨h1, h2, h3, h4⟩ := oE_zero he
    obtain ⟨e1, e2, e3, e4⟩ := o_yes he
    obtain ⟨n, rfl⟩ : ∃ n : Nat, k = (n : Int) := ⟨k.toNat, by omega⟩
    rw [e1, e2, e3, e4, he, Int.toNat_natCast]
    exact roften_yes c r t b n sv xs w hF hb64 h1 h3 h4
  · obtain ⟨e1, e2, e3, e4⟩ := o_no he
    rw [e1, e2, e3, e4]
    refine (roften_no c r t k b sv xs w hF hb64 he).mono ?_
    rintro e w' ⟨rfl, hb⟩
    exact ⟨⟨_, _, _, rfl, Fls.nil _⟩, hb⟩
end Go.Proofs.YtdccjlaneobldaaDoor
