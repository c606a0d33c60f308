/- levellingref12.Factor. -/
import Derived.Deep.RegionLaw
import Derived.Deep.AppendLies
import Derived.Test.YtdccjlaneobldaaDoorOftenNo
import Derived.Test.YtdccjlaneobldaaDoorRefCheck
namespace Go.Proofs.YtdccjlaneobldaaDoor
open Go.RowKit Go.Shelf Rnd

theorem own_ge {W : World} {base e size n q : Nat} {v : Value} {l : List Value} (h : W.ownsRow base e size v n l) (hq : Value.ownBlock v = some q) : base ≤ q := by
  rcases h.2 with ⟨rfl, _⟩ | ⟨g, cap, cur, rfl, hb, _⟩
  · simp [Value.ownBlock] at hq
  · simp [Value.ownBlock] at hq; omega
theorem ownsRow_below {W W' : World} {base e size n m : Nat} {v : Value} {l : List Value} (h : W.ownsRow base e size v n l) (hb : Below m W W') (hm : W.heap.size ≤ m) : W'.ownsRow base e size v n l := by
  refine ⟨h.1, ?_⟩
  rcases h.2 with h2 | ⟨g, cap, cur, e, h3, hg, h4⟩
  · exact .inl h2
  · exact .inr ⟨g, cap, cur, e, h3, (hb.block g (by have := (Array.getElem?_eq_some_iff.1 hg).1; omega)).trans hg, h4⟩
theorem ownsRow_keep {W W' : World} {base e size n : Nat} {v : Value} {l : List Value} (h : W.ownsRow base e size v n l) (hk : ∀ q, base ≤ q → W'.heap[q]? = W.heap[q]?) : W'.ownsRow base e size v n l := by
  refine ⟨h.1, ?_⟩
  rcases h.2 with h2 | ⟨g, cap, cur, e, h3, hg, h4⟩
  · exact .inl h2
  · exact .inr ⟨g, cap, cur, e, h3, (hk g h3).trans hg, h4⟩
theorem own_fls {W : World} {base n : Nat} {v : Value} {xs : List Nat} (h : W.ownsRow base 25 1 v n (xs.map fl)) (hok : okF xs) (hl : xs.length = n) (hm : n ≤ 1000) : Fls W v xs := by
  subst hl
  refine ⟨hok, hm, ?_⟩
  rcases h.2 with ⟨rfl, hn⟩ | ⟨g, cap, cur, rfl, _, hg, hn, hc, hs, ht⟩
  · exact .inl ⟨List.eq_nil_of_length_eq_zero hn, none, 0, rfl⟩
  · refine .inr ⟨g, 0, cap, rfl, hn, fun j hj => ?_⟩
    have hj2 : (cur.toList.take (xs.length * 1))[j]? = (xs.map fl)[j]? := by rw [ht]
    have hj3 : cur[j]? = some (fl xs[j]) := by
      rw [List.getElem?_take_of_lt (by omega), List.getElem?_map] at hj2
      simpa [hj] using hj2
    simp only [World.cell?, hg, Nat.zero_add]
    simp [hj3, hj]
theorem own_slice {W : World} {base e size n : Nat} {v : Value} {l : List Value} (h : W.ownsRow base e size v n l) : ∃ a cap, v = .slice a n cap := by
  rcases h.2 with ⟨rfl, hn⟩ | ⟨g, cap, cur, rfl, _⟩
  · exact ⟨none, 0, by rw [hn]⟩
  · exact ⟨_, _, rfl⟩

/-- The first k of what is faded. -/
def ftake (b : Nat) (xs : List Nat) (k : Nat) : List Nat := (fadeL b xs).take k
theorem ftake_succ {b k : Nat} {xs : List Nat} (h : k < xs.length) : (ftake b xs (k + 1)).map fl = (ftake b xs k).map fl ++ [fl (fadeW b (xs[k]?.getD 0))] := by
  unfold ftake
  rw [List.take_succ_eq_append_getElem (by rw [fadeL_length]; exact h), List.map_append]
  simp [fadeL, h]

/-- What is known on the way: of three boxes and a row. -/
structure Sf (w W : World) (G : Nat) (c r t : Int) (u v : Value) (k : Nat) (l : List Value) : Prop where
  be : Below w.heap.size w W
  bf : FBox W w.heap.size c u r t
  br : FBox W (w.heap.size + 1) 0 (.slice none 0 0) 0 0
  bg : FBox W G c v r t
  o : W.ownsRow (G + 1) 25 1 v k l

theorem rfactor_results {W : World} {B : Nat} {c r t : Int} {sv : Value} (h : FBox W B c sv r t) {tmps : Array Value} {e : Int} (h4 : tmps.getD 4 undef = .pointer (some ⟨B, 0, none⟩)) (h5 : tmps.getD 5 undef = .int .i64 e) :
    (results Tryd.f10 tmps).run Tryd.prog W = .ok (.tuple #[fv c sv r t, .int .i64 e]) W := by
  have k0 := h.c0
  have k1 := h.c1
  have k2 := h.c2
  have k3 := h.c3
  rw [results_cell_tmp rfl, h4, h5]
  simp [go_sem, k0, k1, k2, k3]

set_option maxRecDepth 100000 in
set_option maxHeartbeats 8000000 in
theorem rfactor_yes (c r t : Int) (b : Nat) (sv : Value) (xs : List Nat) (w : World) (hF : Fls w sv xs) (hb64 : b < 18446744073709551616) (hck : checkB c xs r t = true) (hb : mayB b = true) (hk : t < 4096) :
    Calls Tryd.prog 10 #[fv c sv r t, fl b] w fun e w' =>
      (∃ a len cap, e = .returned (.tuple #[fv c (.slice a len cap) r (t + 1), .int .i64 0]) ∧ Fls w' (.slice a len cap) (fadeL b xs)) ∧ Below w.heap.size w w' := by
  obtain ⟨n, rfl, hn1, hn6, hlen⟩ := check_len hck
  have hl := hF.2.1
  have htt := check_turns hck
  obtain ⟨sa, scap, rfl, hcap⟩ := hF.shape
  obtain ⟨i0, hi, hz0, hz1, hz2⟩ := info_parts Tryd.infoF
  have hB : Below w.heap.size w ((w.alloc (fcells n (.slice sa xs.length scap) r t)).alloc (fcells 0 (.slice none 0 0) 0 0)) := ((Below.refl _ w).alloc (Nat.le_refl _) _).alloc (by simp) _
  have bF0 : FBox ((w.alloc (fcells n (.slice sa xs.length scap) r t)).alloc (fcells 0 (.slice none 0 0) 0 0)) w.heap.size n (.slice sa xs.length scap) r t := (FBox.new w _ _ _ _).below ((Below.refl _ _).alloc (Nat.le_refl _) _) (Nat.le_refl _)
  have bR0 : FBox ((w.alloc (fcells n (.slice sa xs.length scap) r t)).alloc (fcells 0 (.slice none 0 0) 0 0)) (w.heap.size + 1) 0 (.slice none 0 0) 0 0 := by
    have h := FBox.new (w.alloc (fcells n (.slice sa xs.length scap) r t)) 0 (.slice none 0 0) 0 0
    rw [World.size_alloc] at h; exact h
  have HCK : Hid (checkB n xs r t = true) := hck
  have HALL : Hid (xs.all leH = true) := check_all hck
  have HB : Hid (mayB b = true) := hb
  have hd : decide (4096 ≤ t) = false := decide_eq_false (by omega)
  clear hck hb hlen
  go_enter Tryd.func10, Tryd.ntmps10
  go_wp2_with fail
  refine (rcheck_c n r t _ xs _ (hF.below hB (Nat.le_refl _))).mono ?_
  rw [HCK.out]
  rintro e w1 ⟨rfl, hb1⟩
  have bF1 := bF0.below hb1 (Nat.le_refl _)
  have bR1 := bR0.below hb1 (Nat.le_refl _)
  have B1 := hB.trans (hb1.mono hB.size)
  clear hb1 bF0 bR0 hB
  go_wp2_with fail
  refine (rmay_c b hb64 _).mono ?_
  rw [HB.out]
  rintro e w2 ⟨rfl, rfl⟩
  have x0 := bF1.c0
  have x1 := bF1.c1
  have x2 := bF1.c2
  have x3 := bF1.c3
  have lF := bF1.lt
  have lR := bR1.lt
  have hba : Below w2.heap.size w2 (w2.alloc (fcells n (.slice none 0 0) r t)) := (Below.refl _ w2).alloc (Nat.le_refl _) _
  have S : Sf w (w2.alloc (fcells n (.slice none 0 0) r t)) w2.heap.size n r t (.slice sa xs.length scap) (.slice none 0 0) 0 ((ftake b xs 0).map fl) :=
    ⟨B1.trans (hba.mono B1.size), bF1.below hba (Nat.le_refl _), bR1.below hba (Nat.le_refl _), FBox.new w2 _ _ _ _, World.ownsRow_nil _ _ _ _⟩
  clear bF1 bR1 B1 hba
  go_wp2_with fail
  clear x0 x1 x2 x3
  generalize hG : w2.heap.size = G at *
  generalize w2.alloc (fcells n (.slice none 0 0) r t) = W2 at *
  have gF : w.heap.size < G := by omega
  have gR : w.heap.size + 1 < G := by omega
  clear hG lF lR
  go_loopw [7] (fun i wr => ∃ (k : Nat) (a : Option Addr) (cp : Nat), k ≤ xs.length ∧ i = .int .i64 (k : Int) ∧ Sf w wr G n r t (.slice sa xs.length scap) (.slice a k cp) k ((ftake b xs k).map fl)) (fun i _ => xs.length - (intOf i).toNat)
  case atStart => exact ⟨0, none, 0, Nat.zero_le _, by simp, S⟩
  case round =>
    clear S
    obtain ⟨k, a, cp, hk', rfl, S⟩ := hrel
    have x1 := S.bf.c1
    by_cases hlt : k < xs.length
    · obtain ⟨sb, soff, sc, e, hsb, _, hcs⟩ := hF.cell (by omega)
      cases e
      have hcw : Hid (w.cell? ⟨sb, soff + k, none⟩ = some (fl (xs[k]?.getD 0))) := hcs k hlt
      have hcell := (S.be.cell (p := ⟨sb, soff + k, none⟩) hsb).trans (hcs k hlt)
      have hx := leH_at HALL.out hlt
      have hk0 : (0 : Int) ≤ (k : Int) := Int.natCast_nonneg _
      have hk1 : (k : Int) < (xs.length : Int) := by omega
      obtain ⟨x, HX⟩ : ∃ x, Hid (xs[k]?.getD 0 = x) := ⟨_, rfl⟩
      rw [HX.out] at hcell hx hcw
      have hm := run_mul hx HB.out
      have g1 := S.bg.c1
      have lG := S.bg.lt
      have HS : Hid (∀ l', l' = (ftake b xs k).map fl ++ [fl (fadeW b x)] → l' = (ftake b xs (k + 1)).map fl) := fun l' h => by rw [h, ftake_succ hlt, HX.out]
      obtain ⟨z, HZ⟩ : ∃ z, Hid (fadeW b x = z) := ⟨_, rfl⟩
      rw [HZ.out] at hm
      clear hcs hx
      have hown : ∀ q, Value.ownBlock (.slice a k cp) = some q → G + 1 ≤ q := fun q hq => own_ge S.o hq
      have post : ∀ gg cap w3, World.ownsRow w3 (G + 1) 25 1 (.slice (some ⟨gg, 0, none⟩) (k + 1) cap) (k + 1) ((ftake b xs k).map fl ++ [fl z]) → ((wr.alloc (.cells #[fl z] 25)).drew).grownBy w3 (Value.ownBlock (.slice a k cp)) →
          FBox w3 w.heap.size n (.slice (some ⟨sb, soff, none⟩) xs.length scap) r t ∧ FBox w3 (w.heap.size + 1) 0 (.slice none 0 0) 0 0 ∧ FBox w3 G n (.slice a k cp) r t ∧ Below w.heap.size w w3 ∧ w3.cell? ⟨sb, soff + k, none⟩ = some (fl x) := by
        intro gg cap w3 ho hg
        have hbd : Below wr.heap.size wr (wr.alloc (.cells #[fl z] 25)).drew := ((Below.refl _ wr).alloc (Nat.le_refl _) _).drew
        have hsz : (wr.alloc (.cells #[fl z] 25)).drew.heap.size = wr.heap.size + 1 := by simp
        have kp : ∀ q, q ≤ G → w3.heap[q]? = wr.heap[q]? := fun q hq => (hg.block q (by omega) (fun e => by have := hown q e.symm; omega)).trans (hbd.block q (by omega))
        have pb : Below w.heap.size w w3 := Below.grown (S.be.trans (hbd.mono S.be.size)) hg (by have := S.be.size; omega) (fun q e => by have := hown q e; omega)
        exact ⟨(kp _ (by omega)).trans S.bf, (kp _ (by omega)).trans S.br, (kp _ (Nat.le_refl _)).trans S.bg, pb, (pb.cell (p := ⟨sb, soff + k, none⟩) hsb).trans hcw.out⟩
      go_wp2_with fail
      go_region_law ((refine step_append_lies _ (by rfl) _ _ _ (by rfl) (G + 1) 25 i0 (.float .f64 0) 1 8 Tryd.underlying22 hi hz0 hz1 hz2 rfl (by decide) (.slice a k cp) k ((ftake b xs k).map fl) (by rfl) ((S.o.alloc _).drew) ⟨wr.heap.size, 0, none⟩ 1 1 [fl z] (by rfl) (by rfl) (World.news_of_block (cs := #[fl z]) (t := 25) (fr := (0, 0)) (heap_alloc_new wr _)) (by simp [Value.oneCell']) (by omega) (by unfold maxLen; omega) (by omega) (by simp; omega) (wr.heap.size + 1) (by simp) ?_; intro gg cap w3 hown1 hgrow hat hlt3; obtain ⟨pf, pr, pg, pb, pc⟩ := post gg cap w3 hown1 hgrow; have pg1 := pg.c1; have pgz := pg.fz 1; have pf1 := pf.c1))
      all_goals
        have S' : Sf w (w3.setCell ⟨G, 1, none⟩ (.slice (some ⟨gg, 0, none⟩) (k + 1) cap)) G n r t (.slice (some ⟨sb, soff, none⟩) xs.length scap) (.slice (some ⟨gg, 0, none⟩) (k + 1) cap) (k + 1) ((ftake b xs (k + 1)).map fl) := by
          refine ⟨pb.setCell (p := ⟨G, 1, none⟩) (by simp; omega) _, pf.other ⟨G, 1, none⟩ _ (by simp; omega), pr.other ⟨G, 1, none⟩ _ (by simp; omega), pg.set1 _, ?_⟩
          rw [← HS.out _ rfl, HZ.out]
          exact ownsRow_keep hown1 (fun q hq => Go.Deep.blk_setCell_other _ _ _ _ (by simp; omega))
        go_wp2_with fail
        go_roundw
        case rel => exact ⟨k + 1, _, _, by omega, by go_num, S'⟩
        case measure => simp [intOf]; omega
    · obtain rfl : k = xs.length := by omega
      have hfin : (ftake b xs xs.length) = fadeL b xs := by
        unfold ftake
        rw [← fadeL_length b xs, List.take_length]
      rw [hfin] at S
      have hf := own_fls S.o (fade_ok hF.1 HALL.out HB.out) (fadeL_length b xs) hl
      have HF : Hid (ftake b xs xs.length = fadeL b xs) := hfin
      clear hfin
      have x3 := S.bf.c3
      have y3 := S.bg.c3
      have z3 := S.bg.fz 3
      have bG5 := S.bg.set3 (t + 1)
      have bR5 := S.br.other ⟨G, 3, none⟩ (.int .i64 (t + 1)) (by simp; omega)
      have B5 := S.be.setCell (p := ⟨G, 3, none⟩) (by simp; omega) (.int .i64 (t + 1))
      have f5 := hf.keep S.bg (W' := wr.setCell ⟨G, 3, none⟩ (.int .i64 (t + 1))) (fun q hq => Go.Deep.blk_setCell_other _ _ _ _ hq)
      have g0 := bG5.c0
      have g1 := bG5.c1
      have g2 := bG5.c2
      have g3 := bG5.c3
      have r0 := bR5.c0
      have r1 := bR5.c1
      have r2 := bR5.c2
      have r3 := bR5.c3
      have q0 := bR5.fz 0
      have q1 := bR5.fz 1
      have q2 := bR5.fz 2
      have q3 := bR5.fz 3
      have b7 := bR5.put n (.slice a xs.length cp) r (t + 1)
      have hB7 := putF_below B5 (B := w.heap.size + 1) (by omega) n (.slice a xs.length cp) r (t + 1)
      have hF7 := f5.putF bR5 n (.slice a xs.length cp) r (t + 1)
      unfold putF at b7 hB7 hF7
      go_wp2_with fail
      exact bodyPost_ret_by (v := .tuple #[fv (n : Int) (.slice a xs.length cp) r (t + 1), .int .i64 0]) (rfactor_results b7 rfl rfl) rfl ⟨⟨a, _, cp, rfl, hF7⟩, hB7⟩

set_option maxRecDepth 100000 in
set_option maxHeartbeats 4000000 in
theorem rfactor_no (c r t : Int) (b : Nat) (sv : Value) (xs : List Nat) (w : World) (hF : Fls w sv xs) (hb64 : b < 18446744073709551616) (he : oE c xs r t b 1 ≠ 0) :
    Calls Tryd.prog 10 #[fv c sv r t, fl b] w fun e w' => e = .returned (.tuple #[fv 0 (.slice none 0 0) 0 0, .int .i64 (oE c xs r t b 1)]) ∧ Below w.heap.size w w' := by
  obtain ⟨sa, scap, rfl, hcap⟩ := hF.shape
  have hB : Below w.heap.size w ((w.alloc (fcells c (.slice sa xs.length scap) r t)).alloc (fcells 0 (.slice none 0 0) 0 0)) := ((Below.refl _ w).alloc (Nat.le_refl _) _).alloc (by simp) _
  have bF0 : FBox ((w.alloc (fcells c (.slice sa xs.length scap) r t)).alloc (fcells 0 (.slice none 0 0) 0 0)) w.heap.size c (.slice sa xs.length scap) r t := (FBox.new w _ _ _ _).below ((Below.refl _ _).alloc (Nat.le_refl _) _) (Nat.le_refl _)
  have bR0 : FBox ((w.alloc (fcells c (.slice sa xs.length scap) r t)).alloc (fcells 0 (.slice none 0 0) 0 0)) (w.heap.size + 1) 0 (.slice none 0 0) 0 0 := by
    have h := FBox.new (w.alloc (fcells c (.slice sa xs.length scap) r t)) 0 (.slice none 0 0) 0 0
    rw [World.size_alloc] at h; exact h
  obtain ⟨E, HE⟩ : ∃ E, Hid (oE c xs r t b 1 = E) := ⟨_, rfl⟩
  rw [HE.out] at he ⊢
  obtain ⟨ck, HCK⟩ : ∃ ck, Hid (checkB c xs r t = ck) := ⟨_, rfl⟩
  obtain ⟨mb, HB⟩ : ∃ mb, Hid (mayB b = mb) := ⟨_, rfl⟩
  go_enter Tryd.func10, Tryd.ntmps10
  go_wp2_with fail
  refine (rcheck_c c r t _ xs _ (hF.below hB (Nat.le_refl _))).mono ?_
  rw [HCK.out]
  rintro e w1 ⟨rfl, hb1⟩
  have bF1 := bF0.below hb1 (Nat.le_refl _)
  have bR1 := bR0.below hb1 (Nat.le_refl _)
  have B1 := hB.trans (hb1.mono hB.size)
  have r0 := bR1.c0
  have r1 := bR1.c1
  have r2 := bR1.c2
  have r3 := bR1.c3
  have z0 := bR1.fz 0
  have z1 := bR1.fz 1
  have z2 := bR1.fz 2
  have z3 := bR1.fz 3
  have b7 := bR1.put 0 (.slice none 0 0) 0 0
  have hB7 := putF_below B1 (B := w.heap.size + 1) (by omega) 0 (.slice none 0 0) 0 0
  unfold putF at b7 hB7
  clear hb1 bF0 bR0 hB
  cases ck with
  | false =>
    obtain rfl : E = 1 := by rw [← HE.out, oE_arg (.inl HCK.out)]
    clear he
    go_wp2_with fail
    exact bodyPost_ret_by (v := .tuple #[fv 0 (.slice none 0 0) 0 0, .int .i64 1]) (rfactor_results b7 rfl rfl) rfl ⟨rfl, hB7⟩
  | true =>
    have htt := check_turns HCK.out
    go_wp2_with fail
    refine (rmay_c b hb64 _).mono ?_
    rw [HB.out]
    rintro e w2 ⟨rfl, rfl⟩
    cases mb with
    | false =>
      obtain rfl : E = 12 := by rw [← HE.out, oE_may HCK.out (by decide) HB.out]
      clear he
      go_wp2_with fail
      exact bodyPost_ret_by (v := .tuple #[fv 0 (.slice none 0 0) 0 0, .int .i64 12]) (rfactor_results b7 rfl rfl) rfl ⟨rfl, hB7⟩
    | true =>
      have hfull : 4096 ≤ t := by
        by_cases h : 4096 ≤ t
        · exact h
        · exact absurd (by rw [← HE.out]; exact oE_yes HCK.out (by decide) HB.out (by omega)) he
      obtain rfl : E = 6 := by rw [← HE.out, oE_full HCK.out (by decide) HB.out (by omega)]
      have d3 := bF1.c3
      clear he
      go_wp2_with fail
      exact bodyPost_ret_by (v := .tuple #[fv 0 (.slice none 0 0) 0 0, .int .i64 6]) (rfactor_results b7 rfl rfl) rfl ⟨rfl, hB7⟩

theorem rfactor_all (c r t : Int) (b : Nat) (sv : Value) (xs : List Nat) (w : World) (hF : Fls w sv xs) (hb64 : b < 18446744073709551616) :
    FadeC 10 #[fv c sv r t, fl b] w c xs r t b 1 := by
  unfold FadeC
  by_cases he : oE c xs r t b 1 = 0
  · obtain ⟨h1, h2, h3, h4⟩ := oE_zero he
    obtain ⟨e1, e2, e3, e4⟩ := o_yes he
    have e5 : fadeN b (1 : Int).toNat xs = fadeL b xs := rfl
    rw [e1, e2, e3, e4, he, e5]
    exact rfactor_yes c r t b sv xs w hF hb64 h1 h3 (by omega)
  · obtain ⟨e1, e2, e3, e4⟩ := o_no he
    rw [e1, e2, e3, e4]
    refine (rfactor_no c r t b sv xs w hF hb64 he).mono ?_
    rintro e w' ⟨rfl, hb⟩
    exact ⟨⟨_, _, _, rfl, Fls.nil _⟩, hb⟩
end Go.Proofs.YtdccjlaneobldaaDoor
