/- fade.Often where it refuses; fade.Often and fade.Factor at any input. -/
import Derived.Test.YtdccjlaneobldaaDoorFPut
namespace Go.Proofs.YtdccjlaneobldaaDoor
open Go.RowKit Go.Shelf Rnd

set_option maxRecDepth 100000 in
set_option maxHeartbeats 4000000 in
theorem often_no (c r t k : Int) (b : Nat) (sv : Value) (xs : List Nat) (w : World) (hT : Tab w) (hF : Fls w sv xs) (hb64 : b < 18446744073709551616) (he : oE c xs r t b k ≠ 0) :
    Calls Tryd.prog 11 #[fv c sv r t, fl b, .int .i64 k] w fun e w' => e = .returned (.tuple #[fv 0 (.slice none 0 0) 0 0, .int .i64 (oE c xs r t b k)]) ∧ Below w.heap.size w w' := by
  obtain ⟨sa, scap, rfl, hcap⟩ := hF.shape
  have hB : Below w.heap.size w (((w.alloc (fcells c (.slice sa xs.length scap) r t)).alloc (.cells #[fl b] 25)).alloc (fcells 0 (.slice none 0 0) 0 0)) := (((Below.refl _ w).alloc (Nat.le_refl _) _).alloc (by simp) _).alloc (by simp; omega) _
  have bF0 : FBox (((w.alloc (fcells c (.slice sa xs.length scap) r t)).alloc (.cells #[fl b] 25)).alloc (fcells 0 (.slice none 0 0) 0 0)) w.heap.size c (.slice sa xs.length scap) r t :=
    (FBox.new w _ _ _ _).below (((Below.refl _ _).alloc (Nat.le_refl _) _).alloc (by simp) _) (Nat.le_refl _)
  have bB0 : BBox (((w.alloc (fcells c (.slice sa xs.length scap) r t)).alloc (.cells #[fl b] 25)).alloc (fcells 0 (.slice none 0 0) 0 0)) (w.heap.size + 1) b := by
    have h : BBox ((w.alloc (fcells c (.slice sa xs.length scap) r t)).alloc (.cells #[fl b] 25)) (w.heap.size + 1) b := by
      have h := Go.Deep.blk_alloc_new (w.alloc (fcells c (.slice sa xs.length scap) r t)) (.cells #[fl b] 25)
      rw [World.size_alloc] at h; exact h
    exact h.below ((Below.refl _ _).alloc (Nat.le_refl _) _) h.lt
  have bR0 : FBox (((w.alloc (fcells c (.slice sa xs.length scap) r t)).alloc (.cells #[fl b] 25)).alloc (fcells 0 (.slice none 0 0) 0 0)) (w.heap.size + 2) 0 (.slice none 0 0) 0 0 := by
    have h := FBox.new ((w.alloc (fcells c (.slice sa xs.length scap) r t)).alloc (.cells #[fl b] 25)) 0 (.slice none 0 0) 0 0
    rw [World.size_alloc, World.size_alloc] at h; exact h
  have hF1 := hF.below hB (Nat.le_refl _)
  have hT1 := hT.below hB
  obtain ⟨E, HE⟩ : ∃ E, Hid (oE c xs r t b k = E) := ⟨_, rfl⟩
  rw [HE.out] at he ⊢
  obtain ⟨ck, HCK⟩ : ∃ ck, Hid (checkB c xs r t = ck) := ⟨_, rfl⟩
  obtain ⟨mb, HB⟩ : ∃ mb, Hid (mayB b = mb) := ⟨_, rfl⟩
  have fin : ∀ W, FBox W (w.heap.size + 2) 0 (.slice none 0 0) 0 0 → Below w.heap.size w W →
      (W.cell? ⟨w.heap.size + 2, 0, none⟩ = some (.int .i64 0) ∧ W.cell? ⟨w.heap.size + 2, 1, none⟩ = some (.slice none 0 0) ∧ W.cell? ⟨w.heap.size + 2, 2, none⟩ = some (.int .i64 0) ∧ W.cell? ⟨w.heap.size + 2, 3, none⟩ = some (.int .i64 0)) ∧
      (W.frozen? ⟨w.heap.size + 2, 0, none⟩ = false ∧ W.frozen? ⟨w.heap.size + 2, 1, none⟩ = false ∧ W.frozen? ⟨w.heap.size + 2, 2, none⟩ = false ∧ W.frozen? ⟨w.heap.size + 2, 3, none⟩ = false) ∧
      FBox (putF W (w.heap.size + 2) 0 (.slice none 0 0) 0 0) (w.heap.size + 2) 0 (.slice none 0 0) 0 0 ∧ Below w.heap.size w (putF W (w.heap.size + 2) 0 (.slice none 0 0) 0 0) := fun W h hb =>
    ⟨⟨h.c0, h.c1, h.c2, h.c3⟩, ⟨h.fz 0, h.fz 1, h.fz 2, h.fz 3⟩, h.put 0 (.slice none 0 0) 0 0, putF_below hb (by omega) 0 (.slice none 0 0) 0 0⟩
  cases ck with
  | false =>
    obtain rfl : E = 1 := by rw [← HE.out, oE_arg (.inl HCK.out)]
    clear he
    go_enter Tryd.func11, Tryd.ntmps11
    go_wp2_with fail
    refine (check_c c r t _ xs _ hT1 hF1).mono ?_
    rw [HCK.out]
    rintro e w1 ⟨rfl, hb1⟩
    obtain ⟨⟨r0, r1, r2, r3⟩, ⟨q0, q1, q2, q3⟩, b7, hB7⟩ := fin w1 (bR0.below hb1 (Nat.le_refl _)) (hB.trans (hb1.mono hB.size))
    unfold putF at b7 hB7
    clear fin
    go_wp2_with fail
    exact bodyPost_ret_by (v := .tuple #[fv 0 (.slice none 0 0) 0 0, .int .i64 1]) (often_results b7 rfl rfl) rfl ⟨rfl, hB7⟩
  | true =>
    by_cases hk : k < 0
    · obtain rfl : E = 1 := by rw [← HE.out, oE_arg (.inr hk)]
      clear he
      go_enter Tryd.func11, Tryd.ntmps11
      go_wp2_with fail
      refine (check_c c r t _ xs _ hT1 hF1).mono ?_
      rw [HCK.out]
      rintro e w1 ⟨rfl, hb1⟩
      obtain ⟨⟨r0, r1, r2, r3⟩, ⟨q0, q1, q2, q3⟩, b7, hB7⟩ := fin w1 (bR0.below hb1 (Nat.le_refl _)) (hB.trans (hb1.mono hB.size))
      unfold putF at b7 hB7
      clear fin
      go_wp2_with fail
      exact bodyPost_ret_by (v := .tuple #[fv 0 (.slice none 0 0) 0 0, .int .i64 1]) (often_results b7 rfl rfl) rfl ⟨rfl, hB7⟩
    have htt := check_turns HCK.out
    go_enter Tryd.func11, Tryd.ntmps11
    go_wp2_with fail
    refine (check_c c r t _ xs _ hT1 hF1).mono ?_
    rw [HCK.out]
    rintro e w1 ⟨rfl, hb1⟩
    have bF1 := bF0.below hb1 (Nat.le_refl _)
    have bB1 := bB0.below hb1 bB0.lt
    have bR1 := bR0.below hb1 (Nat.le_refl _)
    have B1 := hB.trans (hb1.mono hB.size)
    have cb := bB1.cell
    clear hb1 bF0 bB0 bR0 hB hF1 hT1
    go_wp2_with fail
    refine (may_c b hb64 _ (hT.below B1)).mono ?_
    rw [HB.out]
    rintro e w2 ⟨rfl, rfl⟩
    obtain ⟨⟨r0, r1, r2, r3⟩, ⟨q0, q1, q2, q3⟩, b7, hB7⟩ := fin w2 bR1 B1
    unfold putF at b7 hB7
    clear fin
    cases mb with
    | false =>
      obtain rfl : E = 12 := by rw [← HE.out, oE_may HCK.out (by omega) HB.out]
      clear he
      go_wp2_with fail
      exact bodyPost_ret_by (v := .tuple #[fv 0 (.slice none 0 0) 0 0, .int .i64 12]) (often_results b7 rfl rfl) rfl ⟨rfl, hB7⟩
    | true =>
      have hfull : 4096 - t < k := by
        by_cases h : 4096 - t < k
        · exact h
        · exact absurd (by rw [← HE.out]; exact oE_yes HCK.out (by omega) HB.out (by omega)) he
      obtain rfl : E = 6 := by rw [← HE.out, oE_full HCK.out (by omega) HB.out hfull]
      have d3 := bF1.c3
      clear he
      go_wp2_with fail
      exact bodyPost_ret_by (v := .tuple #[fv 0 (.slice none 0 0) 0 0, .int .i64 6]) (often_results b7 rfl rfl) rfl ⟨rfl, hB7⟩

/-- What a call that answers a factor and an error comes to, of fading k times. -/
def FadeC (f : Nat) (args : Array Value) (w : World) (c : Int) (xs : List Nat) (r t : Int) (b : Nat) (k : Int) : Prop :=
  Calls Tryd.prog f args w fun e w' => (∃ a len cap, e = .returned (.tuple #[fv (oC c xs r t b k) (.slice a len cap) (oR c xs r t b k) (oT c xs r t b k), .int .i64 (oE c xs r t b k)]) ∧ Fls w' (.slice a len cap) (oL c xs r t b k)) ∧ Below w.heap.size w w'

theorem often_all (c r t k : Int) (b : Nat) (sv : Value) (xs : List Nat) (w : World) (hT : Tab w) (hF : Fls w sv xs) (hb64 : b < 18446744073709551616) :
    FadeC 11 #[fv c sv r t, fl b, .int .i64 k] w c xs r t b k := by
  unfold FadeC
  by_cases he : oE c xs r t b k = 0
  · obtain ⟨h1, h2, h3, h4⟩ := oE_zero he
    obtain ⟨e1, e2, e3, e4⟩ := o_yes he
    rw [e1, e2, e3, e4, he]
    obtain ⟨n, rfl⟩ : ∃ n : Nat, k = (n : Int) := ⟨k.toNat, by omega⟩
    refine (often_yes c r t b n sv xs w hT hF hb64 h1 h3 h4).mono ?_
    rintro e w' ⟨⟨g, cap, rfl, hX⟩, hb⟩
    have hl := fadeN_length b xs n
    have hk := fadeN_ok hF.1 (check_all h1) h3 n
    have hf := hX.fls hk.1 (by rw [hl]; exact hF.2.1)
    rw [hl] at hf
    rw [Int.toNat_natCast]
    exact ⟨⟨_, _, _, rfl, hf⟩, hb⟩
  · obtain ⟨e1, e2, e3, e4⟩ := o_no he
    rw [e1, e2, e3, e4]
    refine (often_no c r t k b sv xs w hT hF hb64 he).mono ?_
    rintro e w' ⟨rfl, hb⟩
    exact ⟨⟨_, _, _, rfl, Fls.nil _⟩, hb⟩

theorem factor_results {W : World} {B : Nat} {c r t : Int} {sv : Value} (h : FBox W B c sv r t) {tmps : Array Value} {e : Int} (h4 : tmps.getD 4 undef = .pointer (some ⟨B, 0, none⟩)) (h5 : tmps.getD 5 undef = .int .i64 e) :
    (results Tryd.f9 tmps).run Tryd.prog W = .ok (.tuple #[fv c sv r t, .int .i64 e]) W := by
  have k0 := h.c0
  have k1 := h.c1
  have k2 := h.c2
  have k3 := h.c3
  rw [results_cell_tmp rfl, h4, h5]
  simp [go_sem, k0, k1, k2, k3]

set_option maxRecDepth 100000 in
set_option maxHeartbeats 2000000 in
theorem factor_all (c r t : Int) (b : Nat) (sv : Value) (xs : List Nat) (w : World) (hT : Tab w) (hF : Fls w sv xs) (hb64 : b < 18446744073709551616) :
    FadeC 9 #[fv c sv r t, fl b] w c xs r t b 1 := by
  unfold FadeC
  obtain ⟨sa, scap, rfl, hcap⟩ := hF.shape
  have hB : Below w.heap.size w ((w.alloc (fcells c (.slice sa xs.length scap) r t)).alloc (fcells 0 (.slice none 0 0) 0 0)) := ((Below.refl _ w).alloc (Nat.le_refl _) _).alloc (by simp) _
  have bR0 : FBox ((w.alloc (fcells c (.slice sa xs.length scap) r t)).alloc (fcells 0 (.slice none 0 0) 0 0)) (w.heap.size + 1) 0 (.slice none 0 0) 0 0 := by
    have h := FBox.new (w.alloc (fcells c (.slice sa xs.length scap) r t)) 0 (.slice none 0 0) 0 0
    rw [World.size_alloc] at h; exact h
  have hO := often_all c r t 1 b _ xs _ (hT.below hB) (hF.below hB (Nat.le_refl _)) hb64
  unfold FadeC at hO
  obtain ⟨C, HC⟩ : ∃ C, Hid (oC c xs r t b 1 = C) := ⟨_, rfl⟩
  obtain ⟨R, HR⟩ : ∃ R, Hid (oR c xs r t b 1 = R) := ⟨_, rfl⟩
  obtain ⟨T, HTT⟩ : ∃ T, Hid (oT c xs r t b 1 = T) := ⟨_, rfl⟩
  obtain ⟨E, HE⟩ : ∃ E, Hid (oE c xs r t b 1 = E) := ⟨_, rfl⟩
  obtain ⟨L, HL⟩ : ∃ L, Hid (oL c xs r t b 1 = L) := ⟨_, rfl⟩
  rw [HC.out, HR.out, HTT.out, HE.out, HL.out] at hO ⊢
  go_enter Tryd.func9, Tryd.ntmps9
  go_wp2_with fail
  refine hO.mono ?_
  rintro e w1 ⟨⟨a, len, cap, rfl, hf⟩, hb1⟩
  have bR1 := bR0.below hb1 (Nat.le_refl _)
  have B1 := hB.trans (hb1.mono hB.size)
  have r0 := bR1.c0
  have r1 := bR1.c1
  have r2 := bR1.c2
  have r3 := bR1.c3
  have q0 := bR1.fz 0
  have q1 := bR1.fz 1
  have q2 := bR1.fz 2
  have q3 := bR1.fz 3
  have b7 := bR1.put C (.slice a len cap) R T
  have hB7 := putF_below B1 (B := w.heap.size + 1) (by omega) C (.slice a len cap) R T
  have hF7 := hf.putF bR1 C (.slice a len cap) R T
  unfold putF at b7 hB7 hF7
  go_wp2_with fail
  exact bodyPost_ret_by (v := .tuple #[fv C (.slice a len cap) R T, .int .i64 E]) (factor_results b7 rfl rfl) rfl ⟨⟨a, len, cap, rfl, hF7⟩, hB7⟩
end Go.Proofs.YtdccjlaneobldaaDoor
