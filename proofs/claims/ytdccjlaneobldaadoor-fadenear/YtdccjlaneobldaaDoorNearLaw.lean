/- levellinglaw12.FadeNear: the walk. -/
import Derived.BigQuiet
import Derived.Test.YtdccjlaneobldaaDoorAll
import Derived.Test.YtdccjlaneobldaaDoorArgs
import Derived.Test.YtdccjlaneobldaaDoorRefSame
import Derived.Test.YtdccjlaneobldaaDoorDCheck
import Derived.Test.YtdccjlaneobldaaDoorDLFade
import Derived.Test.YtdccjlaneobldaaDoorNearMath
namespace Go.Proofs.YtdccjlaneobldaaDoor.N
open Go.RowKit Go.Shelf Rnd

/-- What is known on the way: of f, of g, and of their boxes. -/
structure Sq4 (w W : World) (P Q : Nat) (c r t t' : Int) (u v : Value) (xs ys : List Nat) : Prop where
  be : Below w.heap.size w W
  p : FBox W P c u r t
  q : FBox W Q c v r t'
  x : Fls W u xs
  y : Fls W v ys
theorem Sq4.below {w W W' : World} {P Q : Nat} {c r t t' : Int} {u v : Value} {xs ys : List Nat} (h : Sq4 w W P Q c r t t' u v xs ys) (hb : Below W.heap.size W W') : Sq4 w W' P Q c r t t' u v xs ys :=
  ⟨h.be.trans (hb.mono h.be.size), h.p.below hb (Nat.le_refl _), h.q.below hb (Nat.le_refl _), h.x.below hb (Nat.le_refl _), h.y.below hb (Nat.le_refl _)⟩

theorem zK_pw : pw 5139 < 2 ^ zK := by
  exact pw_lt (by have := zK_eq; omega)
set_option maxRecDepth 100000 in
set_option maxHeartbeats 8000000 in
theorem near_go (hlive : LiveC) (c m t : Int) (sv' : Value) (b : Nat) (w : World) (hT : Tab w) (h0 : Arg w sv') (hb64 : b < 18446744073709551616) :
    Calls Tryd.prog 6 #[fv c sv' m t, fl b] w fun e w' => e = .returned (.bool true) ∧ Below w.heap.size w w' := by
  obtain ⟨a, len, cap, rfl, hmax, hx⟩ := h0
  have hB : Below w.heap.size w (w.alloc (fcells c (.slice a len cap) m t)) := (Below.refl _ w).alloc (Nat.le_refl _) _
  have X0 := FBox.new w c (.slice a len cap) m t
  by_cases g0 : 60 < len
  · have g0' : (60 : Int) < (len : Int) := by omega
    go_enter Tryd.func6, Tryd.ntmps6
    go_wp2_with fail
    refine (hlive _ (hT.below hB)).mono ?_
    rintro e w' ⟨rfl, hb⟩
    go_wp2
    go_ret
    exact ⟨rfl, hB.trans (hb.mono hB.size)⟩
  have g0' : ¬ (60 : Int) < (len : Int) := by omega
  obtain ⟨xs, hF, rfl⟩ := hx (by omega)
  clear hx
  have hF1 := hF.below hB (Nat.le_refl _)
  have hO := factor_all c m t b _ xs _ (hT.below hB) hF1 hb64
  unfold FadeC at hO
  by_cases he : oE c xs m t b 1 = 0
  · obtain ⟨e1, e2, e3, e4⟩ := o_yes he
    obtain ⟨hck, _, hmb, hk⟩ := oE_zero he
    have htt := check_turns hck
    have hck2 := check_fade (t' := t + 1) hF.1 hck hmb (by omega) (by omega)
    have e5 : fadeN b (1 : Int).toNat xs = fadeL b xs := rfl
    rw [e1, e2, e3, e4, he, e5] at hO
    obtain ⟨n, rfl, hn1, hn6, hlen⟩ := check_len hck
    clear hlen
    have hall := check_all hck
    have hall2 := check_all hck2
    have hbl := mayB_le hmb
    have hfb : b % 2 ^ 63 < Ieee.double.infRung := by
      rw [inf_eq]
      exact Nat.lt_of_le_of_lt (Nat.mod_le _ _) (Nat.lt_of_le_of_lt hbl (by decide))
    have hok2 := fade_ok hF.1 hall hmb
    have kF : ∀ W u, Fls W u xs → Calls Tryd.prog 21 #[fv n u m t] W fun e w' => (∃ v, e = .returned (.tuple #[v, .bool true]) ∧ Dls w' v (szN n) (pairZ n (gsum (ent n xs) (n + 1))) (-2148)) ∧ Below W.heap.size W w' := fun W u h => rgfactor_c n m t u xs W h hck
    have kG : ∀ W u, Fls W u (fadeL b xs) → Calls Tryd.prog 21 #[fv n u m (t + 1)] W fun e w' => (∃ v, e = .returned (.tuple #[v, .bool true]) ∧ Dls w' v (szN n) (gotZ n (fadeL b xs)) (-4296)) ∧ Below W.heap.size W w' := fun W u h => (rgfactor_c n m (t + 1) u (fadeL b xs) W h hck2).mono fun e w' ⟨⟨v, o1, o2⟩, o3⟩ => ⟨⟨v, o1, got_unit o2⟩, o3⟩
    have hsN := szN_small hn1 hn6
    have kN : ∀ W v, Dls W v (szN n) (pairZ n (gsum (ent n xs) (n + 1))) (-2148) → Calls Tryd.prog 22 #[v, fl b] W fun e w' => (∃ v, e = .returned (.tuple #[v, .bool true]) ∧ Dls w' v (szN n) (netZ n xs b) (-4296)) ∧ Below W.heap.size W w' := fun W v h =>
      rlfade_c v (szN n) (pairZ n (gsum (ent n xs) (n + 1))) (-2148) b W h hb64 hfb (by omega) (by omega) (by decide) (by decide) (Nat.lt_of_le_of_lt (beta_le hbl) (pw_big (by decide))) (fun q _ => Nat.lt_of_le_of_lt (net_mid hn6 hF.1 hall hbl q).1 (pw_big (by decide))) (fun q _ => Nat.lt_of_le_of_lt (net_mid hn6 hF.1 hall hbl q).2 (pw_big (by decide))) (fun q _ => Nat.lt_of_le_of_lt (net_le hn6 hF.1 hall hbl q) (pw_big (by decide)))
    have kC : ∀ W v v', Dls W v (szN n) (netZ n xs b) (-4296) → Dls W v' (szN n) (gotZ n (fadeL b xs)) (-4296) → Calls Tryd.prog 23 #[.int .i64 (n : Int), v, v, v', .int .i64 1] W fun e w' => e = .returned (.tuple #[.int .i64 0, .bool true]) ∧ Below W.heap.size W w' := fun W v v' h h' =>
      rcheck9_c v v' n _ _ W h h' hn1 hn6 (fun i hi => by rw [net_diag _ _ hn6 hi]; exact gsum_sq _ _ _ _) (fun i hi => Nat.lt_of_le_of_lt (net_le hn6 hF.1 hall hbl _) zK_pw) (fun q _ => Nat.lt_of_le_of_lt (net_le hn6 hF.1 hall hbl q) (pw_big (by decide))) (fun q _ => Nat.lt_of_le_of_lt (got_le hn6 hok2 hall2 q) (pw_big (by decide))) (fun q _ => apart_lt (got_le hn6 hok2 hall2 q) (net_le hn6 hF.1 hall hbl q)) (fun i j a d hij hj ha hd => near_all hn6 hF.1 hall hbl hij hj ha hd)
    have HLEN : Hid ((fadeL b xs).length = xs.length) := fadeL_length b xs
    clear e1 e2 e3 e4 e5 he hck hck2 hmb hall hall2 hbl hfb hok2
    go_enter Tryd.func6, Tryd.ntmps6
    go_wp2_with fail
    refine hO.mono ?_
    rintro e w1 ⟨⟨a2, l2, k2, rfl, hf⟩, hb⟩
    obtain ⟨_, _, e, _⟩ := hf.shape
    rw [HLEN.out] at e
    cases e
    have hba : Below w1.heap.size w1 (w1.alloc (fcells n (.slice a2 xs.length k2) m (t + 1))) := (Below.refl _ w1).alloc (Nat.le_refl _) _
    have B1 := hB.trans (hb.mono hB.size)
    have S : Sq4 w (w1.alloc (fcells n (.slice a2 xs.length k2) m (t + 1))) w.heap.size w1.heap.size n m t (t + 1) (.slice a xs.length cap) (.slice a2 xs.length k2) xs (fadeL b xs) :=
      ⟨B1.trans (hba.mono B1.size), (X0.below hb (Nat.le_refl _)).below hba (Nat.le_refl _), FBox.new _ _ _ _ _, (hF1.below hb (Nat.le_refl _)).below hba (Nat.le_refl _), hf.below hba (Nat.le_refl _)⟩
    clear hb hba B1 hf hF1 X0 hO hB
    have x0 := S.p.c0
    have x1 := S.p.c1
    have x2 := S.p.c2
    have x3 := S.p.c3
    go_wp2_with fail
    refine (kF _ _ S.x).mono ?_
    rintro e w2 ⟨⟨v2, rfl, D2⟩, hb⟩
    replace S := S.below hb
    clear hb x0 x1 x2 x3
    generalize w1.heap.size = Q at *
    go_wp2_with fail
    refine (kN _ _ D2).mono ?_
    rintro e w3 ⟨⟨v3, rfl, D3⟩, hb⟩
    replace S := S.below hb
    clear hb D2
    have y0 := S.q.c0
    have y1 := S.q.c1
    have y2 := S.q.c2
    have y3 := S.q.c3
    go_wp2_with fail
    refine (kG _ _ S.y).mono ?_
    rintro e w4 ⟨⟨v4, rfl, D4⟩, hb⟩
    replace S := S.below hb
    replace D3 := D3.below hb
    clear hb y0 y1 y2 y3
    have x0 := S.p.c0
    go_wp2_with fail
    refine (kC _ _ _ D3 D4).mono ?_
    rintro e w5 ⟨rfl, hb⟩
    replace S := S.below hb
    clear hb x0 D3 D4
    go_wp2_with fail
    refine (hlive _ (hT.below S.be)).mono ?_
    rintro e w' ⟨rfl, hb⟩
    replace S := S.below hb
    go_wp2
    go_ret
    exact ⟨rfl, S.be⟩
  · obtain ⟨e1, e2, e3, e4⟩ := o_no he
    obtain ⟨E, HE⟩ : ∃ E, Hid (oE c xs m t b 1 = E) := ⟨_, rfl⟩
    rw [e1, e2, e3, e4, HE.out] at hO
    rw [HE.out] at he
    have he' : (E != 0) = true := by simpa using he
    clear e1 e2 e3 e4 he
    go_enter Tryd.func6, Tryd.ntmps6
    go_wp2_with fail
    refine hO.mono ?_
    rintro e w1 ⟨⟨a2, l2, k2, rfl, hf⟩, hb⟩
    have hba : Below w1.heap.size w1 (w1.alloc (fcells 0 (.slice a2 l2 k2) 0 0)) := (Below.refl _ w1).alloc (Nat.le_refl _) _
    have B1 := hB.trans (hb.mono hB.size)
    have B := B1.trans (hba.mono B1.size)
    clear hb hba B1 hf hF1 X0 hO hB
    go_wp2_with fail
    refine (hlive _ (hT.below B)).mono ?_
    rintro e w' ⟨rfl, hb⟩
    go_wp2
    go_ret
    exact ⟨rfl, B.trans (hb.mono B.size)⟩
end Go.Proofs.YtdccjlaneobldaaDoor.N
