/- fade.Often, fade.Factor. -/
import Derived.Test.YtdccjlaneobldaaDoorCount
namespace Go.Proofs.YtdccjlaneobldaaDoor
open Go.RowKit Go.Shelf Rnd

/-- A float in a box. -/
def BBox (W : World) (B b : Nat) : Prop := W.heap[B]? = some (.cells #[fl b] 25 (0, 0))
theorem BBox.lt {W : World} {B b : Nat} (h : BBox W B b) : B < W.heap.size := (Array.getElem?_eq_some_iff.1 h).1
theorem BBox.cell {W : World} {B b : Nat} (h : BBox W B b) : W.cell? ⟨B, 0, none⟩ = some (fl b) := by simp [World.cell?, show W.heap[B]? = _ from h]
theorem BBox.below {W W' : World} {B b n : Nat} (h : BBox W B b) (hb : Below n W W') (hn : B < n) : BBox W' B b := (hb.block B hn).trans h
theorem BBox.other {W : World} {B b : Nat} (h : BBox W B b) (p : Addr) (v : Value) (hp : p.block ≠ B) : BBox (W.setCell p v) B b := (Go.Deep.blk_setCell_other W p v B (fun e => hp e.symm)).trans h
theorem FBox.belowAt {W W' : World} {B n : Nat} {c r t : Int} {sv : Value} (h : FBox W B c sv r t) (hb : Below n W W') (hn : B < n) : FBox W' B c sv r t := (hb.block B hn).trans h

/-- What is known on the way: of three boxes and a row. -/
structure So (w W : World) (g cap len : Nat) (c r t : Int) (b : Nat) (ys : List Nat) : Prop where
  be : Below w.heap.size w W
  bf : FBox W w.heap.size c (.slice (some ⟨g, 0, none⟩) len cap) r t
  bb : BBox W (w.heap.size + 1) b
  br : FBox W (w.heap.size + 2) 0 (.slice none 0 0) 0 0
  y : RowX W g cap ys

theorem often_results {W : World} {B : Nat} {c r t : Int} {sv : Value} (h : FBox W B c sv r t) {tmps : Array Value} {e : Int} (h6 : tmps.getD 6 undef = .pointer (some ⟨B, 0, none⟩)) (h7 : tmps.getD 7 undef = .int .i64 e) :
    (results Tryd.f11 tmps).run Tryd.prog W = .ok (.tuple #[fv c sv r t, .int .i64 e]) W := by
  have k0 := h.c0
  have k1 := h.c1
  have k2 := h.c2
  have k3 := h.c3
  rw [results_cell_tmp rfl, h6, h7]
  simp [go_sem, k0, k1, k2, k3]

set_option maxRecDepth 100000 in
set_option maxHeartbeats 4000000 in
theorem often_yes (c r t : Int) (b k : Nat) (sv : Value) (xs : List Nat) (w : World) (hT : Tab w) (hF : Fls w sv xs) (hb64 : b < 18446744073709551616) (hck : checkB c xs r t = true) (hb : mayB b = true) (hk : (k : Int) ≤ 4096 - t) :
    Calls Tryd.prog 11 #[fv c sv r t, fl b, .int .i64 (k : Int)] w fun e w' =>
      (∃ g cap, e = .returned (.tuple #[fv c (.slice (some ⟨g, 0, none⟩) xs.length cap) r (t + k), .int .i64 0]) ∧ RowX w' g cap (fadeN b k xs)) ∧ Below w.heap.size w w' := by
  obtain ⟨n, rfl, hn1, hn6, hlen⟩ := check_len hck
  have hl := hF.2.1
  have htt := check_turns hck
  have hall := check_all hck
  have hpos : 0 < xs.length := by have := place_lt (r := 0) hn6 (by omega) hlen; omega
  obtain ⟨sa, scap, rfl, hcap⟩ := hF.shape
  have hB : Below w.heap.size w (((w.alloc (fcells n (.slice sa xs.length scap) r t)).alloc (.cells #[fl b] 25)).alloc (fcells 0 (.slice none 0 0) 0 0)) := (((Below.refl _ w).alloc (Nat.le_refl _) _).alloc (by simp) _).alloc (by simp; omega) _
  have bF0 : FBox (((w.alloc (fcells n (.slice sa xs.length scap) r t)).alloc (.cells #[fl b] 25)).alloc (fcells 0 (.slice none 0 0) 0 0)) w.heap.size n (.slice sa xs.length scap) r t :=
    (FBox.new w _ _ _ _).below (((Below.refl _ _).alloc (Nat.le_refl _) _).alloc (by simp) _) (Nat.le_refl _)
  have bB0 : BBox (((w.alloc (fcells n (.slice sa xs.length scap) r t)).alloc (.cells #[fl b] 25)).alloc (fcells 0 (.slice none 0 0) 0 0)) (w.heap.size + 1) b := by
    have h : BBox ((w.alloc (fcells n (.slice sa xs.length scap) r t)).alloc (.cells #[fl b] 25)) (w.heap.size + 1) b := by
      have h := Go.Deep.blk_alloc_new (w.alloc (fcells n (.slice sa xs.length scap) r t)) (.cells #[fl b] 25)
      rw [World.size_alloc] at h; exact h
    exact h.below ((Below.refl _ _).alloc (Nat.le_refl _) _) h.lt
  have bR0 : FBox (((w.alloc (fcells n (.slice sa xs.length scap) r t)).alloc (.cells #[fl b] 25)).alloc (fcells 0 (.slice none 0 0) 0 0)) (w.heap.size + 2) 0 (.slice none 0 0) 0 0 := by
    have h := FBox.new ((w.alloc (fcells n (.slice sa xs.length scap) r t)).alloc (.cells #[fl b] 25)) 0 (.slice none 0 0) 0 0
    rw [World.size_alloc, World.size_alloc] at h; exact h
  have HCK : Hid (checkB n xs r t = true) := hck
  have HALL : Hid (xs.all leH = true) := hall
  have HB : Hid (mayB b = true) := hb
  clear hck hall hb hlen
  have hF1 := hF.below hB (Nat.le_refl _)
  have hT1 := hT.below hB
  go_enter Tryd.func11, Tryd.ntmps11
  go_wp2_with fail
  refine (check_c n r t _ xs _ hT1 hF1).mono ?_
  rw [HCK.out]
  rintro e w1 ⟨rfl, hb1⟩
  have bF1 := bF0.below hb1 (Nat.le_refl _)
  have bB1 := bB0.below hb1 bB0.lt
  have bR1 := bR0.below hb1 (Nat.le_refl _)
  have B1 := hB.trans (hb1.mono hB.size)
  have cb := bB1.cell
  clear hb1 bF0 bB0 bR0 hB hF1 hT1
  go_wp2_with fail
  refine (may_c b hb64 _ (hT.below B1)).mono ?_
  rw [HB.out]
  rintro e w2 ⟨rfl, rfl⟩
  have d1 := bF1.c1
  have d3 := bF1.c3
  go_wp2_with fail
  refine (clone_c _ xs _ (hF.below B1 (Nat.le_refl _)) hpos).mono ?_
  rintro e w3 ⟨⟨g, cap, rfl, hg, hX⟩, hb3⟩
  have lR := bR1.lt
  have lF := bF1.lt
  have bF3 := bF1.below hb3 (Nat.le_refl _)
  have bB3 := bB1.below hb3 bB1.lt
  have bR3 := bR1.below hb3 (Nat.le_refl _)
  have B3 := B1.trans (hb3.mono B1.size)
  have f1 := bF3.c1
  have f1z := bF3.fz 1
  clear cb d1 d3 hb3 bF1 bB1 bR1 B1
  go_wp2_with fail
  have S : So w (w3.setCell ⟨w.heap.size, 1, none⟩ (.slice (some ⟨g, 0, none⟩) xs.length cap)) g cap xs.length n r t b (fadeN b 0 xs) :=
    ⟨B3.setCell (p := ⟨w.heap.size, 1, none⟩) (Nat.le_refl _) _, bF3.set1 _, bB3.other ⟨w.heap.size, 1, none⟩ _ (by simp), bR3.other ⟨w.heap.size, 1, none⟩ _ (by simp), hX.setCell ⟨w.heap.size, 1, none⟩ _ (by simp; omega)⟩
  have hg1 : w.heap.size + 2 < g := by omega
  clear f1 f1z bF3 bB3 bR3 B3 hX lR lF hg
  generalize w3.setCell ⟨w.heap.size, 1, none⟩ (.slice (some ⟨g, 0, none⟩) xs.length cap) = W3 at *
  go_loopw [34] (fun i wr => ∃ j : Nat, j ≤ k ∧ i = .int .i64 (j : Int) ∧ So w wr g cap xs.length n r t b (fadeN b j xs)) (fun i _ => k - (intOf i).toNat)
  case atStart => exact ⟨0, Nat.zero_le _, by simp, S⟩
  case round =>
    clear S
    obtain ⟨j, hj, rfl, S⟩ := hrel
    have x1 := S.bf.c1
    by_cases hlt : j < k
    · have hlt' : (j : Int) < (k : Int) := by omega
      have hN := fadeN_length b xs j
      have hK := count_c b (w.heap.size + 1) g cap (fadeN b j xs) wr S.y (fadeN_ok hF.1 HALL.out HB.out j).2 (by omega) HB.out S.bb.cell (by omega)
      rw [hN] at hK
      clear hN
      go_wp2_with fail
      refine hK.mono ?_
      rintro e w4 ⟨rfl, hX4, hb4⟩
      have S4 : So w w4 g cap xs.length n r t b (fadeN b (j + 1) xs) := ⟨S.be.trans (hb4.mono (by omega)), S.bf.belowAt hb4 (by omega), S.bb.below hb4 (by omega), S.br.belowAt hb4 (by omega), hX4⟩
      clear S hK hX4 hb4 x1
      go_wp2_with fail
      go_roundw
      case rel => exact ⟨j + 1, by omega, by go_num, S4⟩
      case measure => simp [intOf]; omega
    · obtain rfl : j = k := by omega
      have x0 := S.bf.c0
      have x2 := S.bf.c2
      have x3 := S.bf.c3
      have z3 := S.bf.fz 3
      have bF5 := S.bf.set3 (t + j)
      have bR5 := S.br.other ⟨w.heap.size, 3, none⟩ (.int .i64 (t + j)) (by simp)
      have B5 := S.be.setCell (p := ⟨w.heap.size, 3, none⟩) (Nat.le_refl _) (.int .i64 (t + j))
      have y5 := S.y.setCell ⟨w.heap.size, 3, none⟩ (.int .i64 (t + j)) (by simp; omega)
      have g0 := bF5.c0
      have g1 := bF5.c1
      have g2 := bF5.c2
      have g3 := bF5.c3
      have r0 := bR5.c0
      have r1 := bR5.c1
      have r2 := bR5.c2
      have r3 := bR5.c3
      have q0 := bR5.fz 0
      have q1 := bR5.fz 1
      have q2 := bR5.fz 2
      have q3 := bR5.fz 3
      have b7 := bR5.put n (.slice (some ⟨g, 0, none⟩) xs.length cap) r (t + j)
      have hB7 := putF_below B5 (B := w.heap.size + 2) (by omega) n (.slice (some ⟨g, 0, none⟩) xs.length cap) r (t + j)
      have hG7 := y5.putF (w.heap.size + 2) (by omega) n (.slice (some ⟨g, 0, none⟩) xs.length cap) r (t + j)
      unfold putF at b7 hB7 hG7
      go_wp2_with fail
      exact bodyPost_ret_by (v := .tuple #[fv (n : Int) (.slice (some ⟨g, 0, none⟩) xs.length cap) r (t + j), .int .i64 0]) (often_results b7 rfl rfl) rfl ⟨⟨g, cap, rfl, hG7⟩, hB7⟩
end Go.Proofs.YtdccjlaneobldaaDoor
