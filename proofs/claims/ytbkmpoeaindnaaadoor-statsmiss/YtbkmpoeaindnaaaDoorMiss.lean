/- stats.missOf. -/
import Derived.Test.YtbkmpoeaindnaaaDoorLeft
namespace Go.Proofs.YtbkmpoeaindnaaaDoor
open Go.RowKit Go.Shelf Rnd

/-- The sum of the squares of what is left of the first k rows; and with the last entry's, by class. -/
def sumC (c : Int) (n : Nat) (xs : List Nat) (r t : Int) (ls : List Nat) : Nat → Option Nat
  | 0 => some 0
  | k + 1 => asqC (sumC c n xs r t ls k) (leftC c xs r t ls k (n - k))
def missC (c : Int) (n : Nat) (xs : List Nat) (r t : Int) (ls : List Nat) : Option Nat := asqC (sumC c n xs r t ls n) (cls (getN c xs r t c c))

set_option maxRecDepth 100000 in
set_option maxHeartbeats 2000000 in
theorem missOf_c (n : Nat) (r t : Int) (sv lv : Value) (xs ls : List Nat) (w : World) (hn : n ≤ 6) (hT : Tab w) (hF : Fls w sv xs) (hL : Fls w lv ls) (hl : ls.length = n) :
    Calls Tryd.prog 38 #[fv n sv r t, lv] w fun e w' => (∃ z, e = .returned (fl z) ∧ z < 18446744073709551616 ∧ cls z = missC n n xs r t ls) ∧ Below w.heap.size w w' := by
  obtain ⟨a, cap, rfl, hcap⟩ := hF.shape
  obtain ⟨la, lcap, rfl, hlcap⟩ := hL.shape
  rw [hl] at hL hlcap ⊢
  have hB := two_below w 0 n (.slice a xs.length cap) r t
  have hX := two_col w 0 n (.slice a xs.length cap) r t
  have hY := two_fac w 0 n (.slice a xs.length cap) r t
  have S : Sm w ((w.alloc (fcells n (.slice a xs.length cap) r t)).alloc (ccells 0 n (.slice a xs.length cap) r t)) n (.slice a xs.length cap) r t (sumC n n xs r t ls 0) := ⟨hB, hY, 0, by decide, by simp only [sumC]; decide, hX⟩
  clear hB hX hY
  have HL : Hid (ls.length = n) := hl
  clear hl
  go_enter Tryd.func38, Tryd.ntmps38
  go_wp2_with fail
  go_loopw [11] (fun i wr => ∃ k : Nat, k ≤ n ∧ i = .int .i64 (k : Int) ∧ Sm w wr n (.slice a xs.length cap) r t (sumC n n xs r t ls k)) (fun i _ => n - (intOf i).toNat)
  case atStart => exact ⟨0, Nat.zero_le _, by simp, S⟩
  case round =>
    clear S
    obtain ⟨k, hk, rfl, S⟩ := hrel
    obtain ⟨z, hz, hc, hX⟩ := S.bc
    have HC : Hid (cls z = sumC n n xs r t ls k) := hc
    clear hc
    by_cases hlt : k < n
    · have hlt' : (k : Int) < (n : Int) := by omega
      go_wp2_with fail
      refine (left_c (w.heap.size + 1) z n k r t _ _ xs ls _ hn hk (hT.below S.be) hX (hF.below S.be (Nat.le_refl _)) (hL.below S.be (Nat.le_refl _)) HL.out).mono ?_
      rintro e w1 ⟨⟨y, rfl, hy, hcy⟩, hb1⟩
      have hX1 := hX.below hb1 hX.lt
      have hY1 := S.bf.below hb1 (Nat.le_refl _)
      have hB1 := S.be.trans (hb1.mono S.be.size)
      have HY : Hid (cls y = leftC n xs r t ls k (n - k)) := hcy
      clear hX hb1 S hcy
      go_wp2_with fail
      refine (add_c (w.heap.size + 1) z y n r t _ _ hX1).mono ?_
      rintro e w2 ⟨rfl, ⟨z2, hz2, hc2, hX2⟩, hb2⟩
      rw [HC.out, HY.out] at hc2
      have S2 : Sm w w2 n (.slice a xs.length cap) r t (sumC n n xs r t ls (k + 1)) := ⟨hB1.trans (hb2.mono (by omega)), hY1.belowAt hb2 (by omega), z2, hz2, hc2, hX2⟩
      clear hX1 hY1 hB1 hc2 hX2 hb2 HC HY
      go_wp2_with fail
      go_roundw
      case rel => exact ⟨k + 1, by omega, by go_num, S2⟩
      case measure => simp [intOf]; omega
    · obtain rfl : k = n := by omega
      have hlt' : ¬ (k : Int) < (k : Int) := by omega
      go_wp2_with fail
      refine (last_c (w.heap.size + 1) z k r t _ xs _ (hT.below S.be) hX (hF.below S.be (Nat.le_refl _))).mono ?_
      rintro e w1 ⟨rfl, hb1⟩
      have hX1 := hX.below hb1 hX.lt
      have hB1 := S.be.trans (hb1.mono S.be.size)
      clear hX hb1 S
      go_wp2_with fail
      refine (add_c (w.heap.size + 1) z _ k r t _ _ hX1).mono ?_
      rintro e w2 ⟨rfl, ⟨z2, hz2, hc2, hX2⟩, hb2⟩
      rw [HC.out] at hc2
      have HC2 : Hid (cls z2 = missC k k xs r t ls) := hc2
      have hB2 := hB1.trans (hb2.mono (by omega))
      clear hX1 hB1 hc2 hb2 HC
      go_wp2_with fail
      refine (total_c (w.heap.size + 1) z2 k r t _ _ hX2).mono ?_
      rintro e w3 ⟨rfl, rfl⟩
      go_wp2
      go_ret
      exact ⟨⟨z2, rfl, hz2, HC2.out⟩, hB2⟩
end Go.Proofs.YtbkmpoeaindnaaaDoor
