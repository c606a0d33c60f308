/- stats.restOf, stats.totalOf. -/
import Derived.Test.YtbkmpoeaindnaaaDoorCol
namespace Go.Proofs.YtbkmpoeaindnaaaDoor
open Go.RowKit Go.Shelf Rnd

/-- The two boxes that these calls make: the factor's, and the column's. -/
theorem two_below (w : World) (a : Nat) (c : Int) (sv : Value) (r t : Int) : Below w.heap.size w ((w.alloc (fcells c sv r t)).alloc (ccells a c sv r t)) := ((Below.refl _ w).alloc (Nat.le_refl _) _).alloc (by simp) _
theorem two_col (w : World) (a : Nat) (c : Int) (sv : Value) (r t : Int) : CBox ((w.alloc (fcells c sv r t)).alloc (ccells a c sv r t)) (w.heap.size + 1) a c sv r t := by
  have h := CBox.new (w.alloc (fcells c sv r t)) a c sv r t
  rw [World.size_alloc] at h
  exact h
theorem two_fac (w : World) (a : Nat) (c : Int) (sv : Value) (r t : Int) : FBox ((w.alloc (fcells c sv r t)).alloc (ccells a c sv r t)) w.heap.size c sv r t :=
  (FBox.new w c sv r t).below ((Below.refl _ _).alloc (Nat.le_refl _) _) (Nat.le_refl _)

set_option maxRecDepth 100000 in
set_option maxHeartbeats 1000000 in
theorem rest_c (c r t : Int) (sv : Value) (xs : List Nat) (w : World) (hT : Tab w) (hF : Fls w sv xs) :
    Calls Tryd.prog 32 #[fv c sv r t] w fun e w' => (∃ z, e = .returned (fl z) ∧ z < 18446744073709551616 ∧ cls z = asqC (some 0) (cls (getN c xs r t c c))) ∧ Below w.heap.size w w' := by
  obtain ⟨a, cap, rfl, hcap⟩ := hF.shape
  have hB := two_below w 0 c (.slice a xs.length cap) r t
  have hX := two_col w 0 c (.slice a xs.length cap) r t
  go_enter Tryd.func32, Tryd.ntmps32
  go_wp2_with fail
  refine (last_c (w.heap.size + 1) 0 c r t _ xs _ (hT.below hB) hX (hF.below hB (Nat.le_refl _))).mono ?_
  rintro e w1 ⟨rfl, hb1⟩
  have hX1 := hX.below hb1 (by simp)
  have hB1 := hB.trans (hb1.mono hB.size)
  clear hX hb1 hB
  go_wp2_with fail
  refine (add_c (w.heap.size + 1) 0 _ c r t _ _ hX1).mono ?_
  rintro e w2 ⟨rfl, ⟨z, hz, hc, hX2⟩, hb2⟩
  have hB2 := hB1.trans (hb2.mono (by omega))
  clear hX1 hb2 hB1
  have HC : Hid (cls z = asqC (cls 0) (cls (getN c xs r t c c))) := hc
  clear hc
  go_wp2_with fail
  refine (total_c (w.heap.size + 1) z c r t _ _ hX2).mono ?_
  rintro e w3 ⟨rfl, rfl⟩
  go_wp2
  go_ret
  exact ⟨⟨z, rfl, hz, HC.out⟩, hB2⟩

/-- The sum of the squares of the last column's first k entries, by class. -/
def totC (c : Int) (xs : List Nat) (r t : Int) : Nat → Option Nat
  | 0 => some 0
  | k + 1 => asqC (totC c xs r t k) (cls (getN c xs r t (k : Int) c))

/-- What is known in the middle of a sum. -/
structure Sm (w W : World) (c : Int) (sv : Value) (r t : Int) (o : Option Nat) : Prop where
  be : Below w.heap.size w W
  bf : FBox W w.heap.size c sv r t
  bc : ∃ z, z < 18446744073709551616 ∧ cls z = o ∧ CBox W (w.heap.size + 1) z c sv r t

theorem FBox.belowAt {W W' : World} {B n : Nat} {c r t : Int} {sv : Value} (h : FBox W B c sv r t) (hb : Below n W W') (hn : B < n) : FBox W' B c sv r t := (hb.block B hn).trans h

set_option maxRecDepth 100000 in
set_option maxHeartbeats 2000000 in
theorem tot_c (n : Nat) (r t : Int) (sv : Value) (xs : List Nat) (w : World) (hn : n ≤ 6) (hT : Tab w) (hF : Fls w sv xs) :
    Calls Tryd.prog 33 #[fv n sv r t] w fun e w' => (∃ z, e = .returned (fl z) ∧ z < 18446744073709551616 ∧ cls z = totC n xs r t (n + 1)) ∧ Below w.heap.size w w' := by
  obtain ⟨a, cap, rfl, hcap⟩ := hF.shape
  have hB := two_below w 0 n (.slice a xs.length cap) r t
  have hX := two_col w 0 n (.slice a xs.length cap) r t
  have hY := two_fac w 0 n (.slice a xs.length cap) r t
  have S : Sm w ((w.alloc (fcells n (.slice a xs.length cap) r t)).alloc (ccells 0 n (.slice a xs.length cap) r t)) n (.slice a xs.length cap) r t (totC n xs r t 0) := ⟨hB, hY, 0, by decide, by simp only [totC]; decide, hX⟩
  clear hB hX hY
  go_enter Tryd.func33, Tryd.ntmps33
  go_wp2_with fail
  go_loopw [10] (fun i wr => ∃ k : Nat, k ≤ n + 1 ∧ i = .int .i64 (k : Int) ∧ Sm w wr n (.slice a xs.length cap) r t (totC n xs r t k)) (fun i _ => n + 1 - (intOf i).toNat)
  case atStart => exact ⟨0, Nat.zero_le _, by simp, S⟩
  case round =>
    clear S
    obtain ⟨k, hk, rfl, S⟩ := hrel
    by_cases hlt : k < n + 1
    · have hlt' : (k : Int) < (n : Int) + 1 := by omega
      obtain ⟨z, hz, hc, hX⟩ := S.bc
      have HC : Hid (cls z = totC n xs r t k) := hc
      clear hc
      go_wp2_with fail
      refine (entry_c (w.heap.size + 1) z n r t k _ xs _ (hT.below S.be) hX (hF.below S.be (Nat.le_refl _))).mono ?_
      rintro e w1 ⟨rfl, hb1⟩
      have hX1 := hX.below hb1 hX.lt
      have hY1 := S.bf.below hb1 (Nat.le_refl _)
      have hB1 := S.be.trans (hb1.mono S.be.size)
      clear hX hb1 S
      go_wp2_with fail
      refine (add_c (w.heap.size + 1) z _ n r t _ _ hX1).mono ?_
      rintro e w2 ⟨rfl, ⟨z2, hz2, hc2, hX2⟩, hb2⟩
      rw [HC.out] at hc2
      have S2 : Sm w w2 n (.slice a xs.length cap) r t (totC n xs r t (k + 1)) := ⟨hB1.trans (hb2.mono (by omega)), hY1.belowAt hb2 (by omega), z2, hz2, hc2, hX2⟩
      clear hX1 hY1 hB1 hc2 hX2 hb2 HC
      go_wp2_with fail
      go_roundw
      case rel => exact ⟨k + 1, by omega, by go_num, S2⟩
      case measure => simp [intOf]; omega
    · obtain rfl : k = n + 1 := by omega
      have hlt' : ¬ ((n + 1 : Nat) : Int) < (n : Int) + 1 := by omega
      obtain ⟨z, hz, hc, hX⟩ := S.bc
      have HC : Hid (cls z = totC n xs r t (n + 1)) := hc
      clear hc
      go_wp2_with fail
      refine (total_c (w.heap.size + 1) z n r t _ _ hX).mono ?_
      rintro e w3 ⟨rfl, rfl⟩
      go_wp2
      go_ret
      exact ⟨⟨z, rfl, hz, HC.out⟩, S.be⟩
end Go.Proofs.YtbkmpoeaindnaaaDoor
