/- levellinglaw12.FadeMay: the walk. -/
import Derived.BigQuiet
import Derived.Test.YtdccjlaneobldaaDoorAll
import Derived.Test.YtdccjlaneobldaaDoorRefSame
import Derived.Test.YtdccjlaneobldaaDoorArgs
namespace Go.Proofs.YtdccjlaneobldaaDoor
open Go.RowKit Go.Shelf Rnd

/-- No entry's size grows. -/
theorem fade_small {b x : Nat} (h64 : x < 18446744073709551616) (hx : leH x = true) (hb : mayB b = true) :
    (FloatKind.f64.format.order (fadeW b x % 9223372036854775808) (x % 9223372036854775808) == some .gt) = false := by
  have h := (fadeW_is h64 (leH_fin hx) (mayB_le hb)).2.1
  have hf := leH_fin hx
  have e : FloatKind.f64.format.order (fadeW b x % 9223372036854775808) (x % 9223372036854775808) = some (compare (fadeW b x % 9223372036854775808) (x % 9223372036854775808)) := order_pos (Nat.lt_of_le_of_lt h hf) hf
  rw [e]
  rcases Nat.lt_trichotomy (fadeW b x % 9223372036854775808) (x % 9223372036854775808) with h1 | h1 | h1
  · rw [Nat.compare_eq_lt.2 h1]; rfl
  · rw [Nat.compare_eq_eq.2 h1]; rfl
  · omega

/-- What is known on the way: of f, of g, and of their boxes. -/
structure Sm (w W : World) (P Q : Nat) (c r t t' : Int) (u v : Value) (xs ys : List Nat) : Prop where
  be : Below w.heap.size w W
  p : FBox W P c u r t
  q : FBox W Q c v r t'
  x : Fls W u xs
  y : Fls W v ys
theorem Sm.below {w W W' : World} {P Q : Nat} {c r t t' : Int} {u v : Value} {xs ys : List Nat} (h : Sm w W P Q c r t t' u v xs ys) (hb : Below W.heap.size W W') : Sm w W' P Q c r t t' u v xs ys :=
  ⟨h.be.trans (hb.mono h.be.size), h.p.below hb (Nat.le_refl _), h.q.below hb (Nat.le_refl _), h.x.below hb (Nat.le_refl _), h.y.below hb (Nat.le_refl _)⟩

set_option maxRecDepth 100000 in
set_option maxHeartbeats 8000000 in
theorem may_go (hlive : LiveC) (c m t : Int) (sv : Value) (b : Nat) (w : World) (hT : Tab w) (h0 : Arg w sv) (hb64 : b < 18446744073709551616) :
    Calls Tryd.prog 5 #[fv c sv m t, fl b] w fun e w' => e = .returned (.bool true) ∧ Below w.heap.size w w' := by
  obtain ⟨a, len, cap, rfl, hmax, hx⟩ := h0
  have hB : Below w.heap.size w (w.alloc (fcells c (.slice a len cap) m t)) := (Below.refl _ w).alloc (Nat.le_refl _) _
  have X0 := FBox.new w c (.slice a len cap) m t
  by_cases g0 : 60 < len
  · have g0' : (60 : Int) < (len : Int) := by omega
    go_enter Tryd.func5, Tryd.ntmps5
    go_wp2_with fail
    refine (hlive _ (hT.below hB)).mono ?_
    rintro e w' ⟨rfl, hb⟩
    go_wp2
    go_ret
    exact ⟨rfl, hB.trans (hb.mono hB.size)⟩
  have g0' : ¬ (60 : Int) < (len : Int) := by omega
  obtain ⟨xs, hF, rfl⟩ := hx (by omega)
  clear hx
  have hF1 := hF.below hB (Nat.le_refl _)
  have hO := factor_all c m t b _ xs _ (hT.below hB) hF1 hb64
  unfold FadeC at hO
  by_cases he : oE c xs m t b 1 = 0
  · obtain ⟨e1, e2, e3, e4⟩ := o_yes he
    obtain ⟨hck, _, hmb, hk⟩ := oE_zero he
    have htt := check_turns hck
    have hck2 := check_fade (t' := t + 1) hF.1 hck hmb (by omega) (by omega)
    have HALL : Hid (xs.all leH = true) := check_all hck
    have e5 : fadeN b (1 : Int).toNat xs = fadeL b xs := rfl
    rw [e1, e2, e3, e4, he, e5] at hO
    have HCK : Hid (checkB c xs m t = true) := hck
    have HCK2 : Hid (checkB c (fadeL b xs) m (t + 1) = true) := hck2
    have HMB : Hid (mayB b = true) := hmb
    have HLEN : Hid ((fadeL b xs).length = xs.length) := fadeL_length b xs
    clear e1 e2 e3 e4 e5 he hck hck2 hmb
    go_enter Tryd.func5, Tryd.ntmps5
    go_wp2_with fail
    refine hO.mono ?_
    rintro e w1 ⟨⟨a2, l2, k2, rfl, hf⟩, hb⟩
    obtain ⟨_, _, e, _⟩ := hf.shape
    rw [HLEN.out] at e
    cases e
    have hba : Below w1.heap.size w1 (w1.alloc (fcells c (.slice a2 xs.length k2) m (t + 1))) := (Below.refl _ w1).alloc (Nat.le_refl _) _
    have B1 := hB.trans (hb.mono hB.size)
    have S : Sm w (w1.alloc (fcells c (.slice a2 xs.length k2) m (t + 1))) w.heap.size w1.heap.size c m t (t + 1) (.slice a xs.length cap) (.slice a2 xs.length k2) xs (fadeL b xs) :=
      ⟨B1.trans (hba.mono B1.size), (X0.below hb (Nat.le_refl _)).below hba (Nat.le_refl _), FBox.new _ _ _ _ _, (hF1.below hb (Nat.le_refl _)).below hba (Nat.le_refl _), hf.below hba (Nat.le_refl _)⟩
    clear hb hba B1 hf hF1 X0 hO hB
    have x0 := S.p.c0
    have x1 := S.p.c1
    have x2 := S.p.c2
    have x3 := S.p.c3
    go_wp2_with fail
    refine (check_c c m t _ xs _ (hT.below S.be) S.x).mono ?_
    rw [HCK.out]
    rintro e w2 ⟨rfl, hb⟩
    replace S := S.below hb
    clear hb x0 x1 x2 x3
    generalize w1.heap.size = Q at *
    have y0 := S.q.c0
    have y1 := S.q.c1
    have y2 := S.q.c2
    have y3 := S.q.c3
    go_wp2_with fail
    refine (check_c c m (t + 1) _ _ _ (hT.below S.be) S.y).mono ?_
    rw [HCK2.out]
    rintro e w3 ⟨rfl, hb⟩
    replace S := S.below hb
    clear hb y0 y1 y2 y3
    have x0 := S.p.c0
    have x1 := S.p.c1
    have x2 := S.p.c2
    have x3 := S.p.c3
    have y0 := S.q.c0
    have y1 := S.q.c1
    have y2 := S.q.c2
    have y3 := S.q.c3
    have h3 : IntKind.i64.wrap (t + 1) = t + 1 := by rw [IntKind.wrap_i64]; omega
    go_wp2_with fail
    refine (may_c b hb64 _ (hT.below S.be)).mono ?_
    rw [HMB.out]
    rintro e w4 ⟨rfl, rfl⟩
    clear x0 x1 x2 x3 y0 y1 y2 y3
    go_wp2_with fail
    go_loopw [7] (fun i wr => ∃ k : Nat, k ≤ xs.length ∧ i = .int .i64 (k : Int) ∧ Sm w wr w.heap.size Q c m t (t + 1) (.slice a xs.length cap) (.slice a2 xs.length k2) xs (fadeL b xs)) (fun i _ => xs.length - (intOf i).toNat)
    case atStart => exact ⟨0, Nat.zero_le _, by simp, S⟩
    case round =>
      clear S
      obtain ⟨k, hk', rfl, S⟩ := hrel
      have x1 := S.p.c1
      by_cases hlt : k < xs.length
      · have y1 := S.q.c1
        have hlt' : (k : Int) < (xs.length : Int) := by omega
        obtain ⟨b1, o1, c1, e1, _, _, hc1⟩ := S.x.cell (by omega)
        obtain ⟨b2, o2, c2, e2, _, _, hc2⟩ := S.y.cell (by rw [HLEN.out]; omega)
        rw [HLEN.out] at e2
        cases e1
        cases e2
        have k1 := hc1 k hlt
        have k2' := hc2 k (by rw [HLEN.out]; exact hlt)
        rw [fadeL_at hlt] at k2'
        have hok := okF_getD hF.1 k
        have hlx := leH_at HALL.out hlt
        obtain ⟨x, HX⟩ : ∃ x, Hid (xs[k]?.getD 0 = x) := ⟨_, rfl⟩
        rw [HX.out] at k1 k2' hok hlx
        have hok2 := fade_lt hok hlx HMB.out
        have hs := fade_small hok hlx HMB.out
        have hg : decide (9223372036854775808 ≤ fadeW b x) = decide (9223372036854775808 ≤ x) := sg_fade hok hlx HMB.out
        obtain ⟨z, HZ⟩ : ∃ z, Hid (fadeW b x = z) := ⟨_, rfl⟩
        rw [HZ.out] at k2' hok2 hs hg
        obtain ⟨sx, HSX⟩ : ∃ sx, Hid (decide (9223372036854775808 ≤ x) = sx) := ⟨_, rfl⟩
        have q1 := fun w' => abs_c z hok2 w'
        have q2 := fun w' => abs_c x hok w'
        have q3 := fun w' => signbit_c z hok2 w'
        have q4 := fun w' => signbit_c x hok w'
        rw [hg, HSX.out] at q3
        rw [HSX.out] at q4
        clear hc1 hc2 hg
        go_wp2_with fail
        go_quiet ((first | (go_at_call 19; first | with_reducible refine Calls.quiet_of_same (q1 _) | with_reducible refine Calls.quiet_of_same (q2 _)) | (go_at_call 20; first | with_reducible refine Calls.quiet_of_same (q3 _) | with_reducible refine Calls.quiet_of_same (q4 _))))
        go_wp2_with fail
        go_roundw
        case rel => exact ⟨k + 1, by omega, by go_num, S.below (below_drewN (Below.refl _ _) _)⟩
        case measure => simp [intOf]; omega
      · obtain rfl : k = xs.length := by omega
        go_wp2_with fail
        refine (hlive _ (hT.below S.be)).mono ?_
        rintro e w' ⟨rfl, hb⟩
        replace S := S.below hb
        go_wp2
        go_ret
        exact ⟨rfl, S.be⟩
  · obtain ⟨e1, e2, e3, e4⟩ := o_no he
    obtain ⟨E, HE⟩ : ∃ E, Hid (oE c xs m t b 1 = E) := ⟨_, rfl⟩
    rw [e1, e2, e3, e4, HE.out] at hO
    rw [HE.out] at he
    have he' : (E != 0) = true := by simpa using he
    clear e1 e2 e3 e4 he
    go_enter Tryd.func5, Tryd.ntmps5
    go_wp2_with fail
    refine hO.mono ?_
    rintro e w1 ⟨⟨a2, l2, k2, rfl, hf⟩, hb⟩
    have hba : Below w1.heap.size w1 (w1.alloc (fcells 0 (.slice a2 l2 k2) 0 0)) := (Below.refl _ w1).alloc (Nat.le_refl _) _
    have B1 := hB.trans (hb.mono hB.size)
    have B := B1.trans (hba.mono B1.size)
    have hA := fsame_c 0 0 0 _ _ [] [] _ (hf.below hba (Nat.le_refl _)) (Fls.nil _)
    have ha : allSame [] [] = true := rfl
    rw [ha] at hA
    clear hb hba B1 hf hF1 X0 hO hB ha
    go_wp2_with fail
    refine hA.mono ?_
    rintro e w2 ⟨rfl, hb⟩
    replace B := B.trans (hb.mono B.size)
    go_wp2_with fail
    refine (hlive _ (hT.below B)).mono ?_
    rintro e w' ⟨rfl, hb⟩
    go_wp2
    go_ret
    exact ⟨rfl, B.trans (hb.mono B.size)⟩
end Go.Proofs.YtdccjlaneobldaaDoor
