/- stats.restOf, stats.totalOf. -/
import Derived.Test.YtbkmpoeaindnaaaDoorCol
namespace Go.Proofs.YtbkmpoeaindnaaaDoor
open Go.RowKit Go.Shelf Rnd

/-- The two boxes that these calls make: the factor's, and the column's. -/
theorem two_below (w : World) (a : Nat) (c : Int) (sv : Value) (r t : Int) : Below w.heap.size w ((w.alloc (fcells c sv r t)).alloc (ccells a c sv r t)) := ((Below.refl _ w).alloc (Nat.le_refl _) _).alloc (by simp) _
theorem two_col (w : World) (a : Nat) (c : Int) (sv : Value) (r t : Int) : CBox ((w.alloc (fcells c sv r t)).alloc (ccells a c sv r t)) (w.heap.size + 1) a c sv r t := by
  have h := CBox.new (w.alloc (fcells c sv r t)) a c sv r t
  rw [World.size_alloc] at h
  exact h
theorem two_fac (w : World) (a : Nat) (c : Int) (sv : Value) (r t : Int) : FBox ((w.alloc (fcells c sv r t)).alloc (ccells a c sv r t)) w.heap.size c sv r t :=
  (FBox.new w c sv r t).below ((Below.refl _ _).alloc (Nat.le_refl _) _) (Nat.le_refl _)

set_option maxRecDepth 100000 in
set_option maxHeartbeats 1000000 in
theorem rest_c (c r t : Int) (sv : Value) (xs : List Nat) (w : World) (hT : Tab w) (hF : Fls w sv xs) :
    Calls Tryd.prog 32 #[fv c sv r t] w fun e w' => (∃ z, e = .returned (fl z) ∧ z < 18446744073709551616 ∧ cls z = asqC (some 0) (cls (getN c xs r t c c))) ∧ Below w.heap.size w w' := by
  obtain ⟨a, cap, rfl, hcap⟩ := hF.shape
  have hB := two_below w 0 c (.slice a xs.length cap) r t
  have hX := two_col w 0 c (.slice a xs.length cap) r t
  go_enter Tryd.func32, Tryd.ntmps32
  go_wp2_with fail
  refine (last_c (w.heap.size + 1) 0 c r t _ xs _ (hT.below hB) hX (hF.below hB (Nat.le_refl _))).mono ?_
  rintro e w1 ⟨rfl, hb1⟩
  have hX1 := hX.below hb1 (by simp)
  have hB1 := hB.trans (hb1.mono hB.size)
  clear hX hb1 hB
  go_wp2_with fail
  refine (add_c (w.heap.size + 1) 0 _ c r t _ _ hX1).mono ?_
  rintro e w2 ⟨rfl, ⟨z, hz, hc, hX2⟩, hb2⟩
  have hB2 := hB1.trans (hb2.mono (by omega))
  clear hX1 hb2 hB1
  have HC : Hid (cls z = asqC (cls 0) (cls (getN c xs r t c c))) := hc
  clear hc
  go_wp2_with fail
  refine (total_c (w.heap.size + 1) z c r t _ _ hX2).mono ?_
  rintro e w3 ⟨rfl, rfl⟩
  go_wp2
  go_ret
  exact ⟨⟨z, rfl, hz, HC.out⟩, hB2⟩

/-- The sum of the squares of the last column's first k entries, by class. -/
def totC (c : Int) (xs : List Nat) (r t : Int) : Nat → Option Nat
  | 0 => some 0
  | k + 1 => asqC (totC c xs r t k) (cls (getN c xs r t (k : Int) c))

/-- What is known in the middle of a sum. -/
structure Sm (w W : World) (c : Int) (sv : Value) (r t : Int) (o : Option Nat) : Prop where
  be : Below w.heap.size w W
  bf : FBox W w.heap.size c sv r t
  bc : ∃ z, z < 18446744073709551616 ∧ cls z = o ∧ CBox W (w.heap.size + 1) z c sv r t

theorem FBox.belowAt {W W' : World} {B n : Nat} {c r t : Int} {sv : Value} (h : FBox W B c sv r t) (hb : Below n W W') (hn : B < n) : FBox W' B c sv r t := (hb.block B hn).trans h

set_option maxRecDepth 100000 in
set_option maxHeartbeats 2000000 in
theorem tot_c (n : Nat) (r t : Int) (sv : Value) (xs : List Nat) (w : World) (hn : n ≤ 6) (hT : Tab w) (hF : Fls w sv xs) :
    Calls Tryd.prog 33 #[fv n sv r t] w fun e w' => (∃ z, e = .returned (fl z) ∧ z < 18446744073709551616 ∧ cls z = totC n xs r t (n + 1)) ∧ Below w.heap.size w w' := by
  obtain ⟨a, cap, rfl, hcap⟩ := hF.shape
  have hB := two_below w 0 n (.slice a xs.length cap) r t
  have hX := two_col w 0 n (.slice a xs.length cap) r t
  have hY := two_fac w 0 n (.slice a xs.length cap) r t
  have S : Sm w ((w.alloc (fcells n (.slice a xs.length cap) r t)).alloc (ccells 0 n (.slice a xs.length cap) r t)) n (.slice a xs.length cap) r t (totC n xs r t 0) := ⟨hB, hY, 0, by decide, by simp only [totC]; decide, hX⟩
  clear hB hX hY
  go_enter Tryd.func33, Tryd.ntmps33
  go_wp2_with fail
  go_loopw [10] (fun i wr => ∃ k : Nat, k ≤ n + 1 ∧ i = .int .i64 (k : Int) ∧ Sm w wr n (.slice a xs.length cap) r t (totC n xs r t k)) (fun i _ => n + 1 - (intOf i).toNat)
  case atStart => exact ⟨0, Nat.zero_le _, by simp, S⟩
  case round =>
    clear S
    obtain ⟨k, hk, rfl, S⟩ := hrel
    by_cases hlt : k < n + 1
    · have hlt' : (k : Int) < (n : Int) + 1 := by omega
      obtain ⟨z, hz, hc, hX⟩ := S.bc
      have HC : Hid (cls z = totC n xs r t k) := hc
      clear hc
      go_wp2_with fail
      refine (entry_c (w.heap.size + 1) z n r t k _ xs _ (hT.below S.be) hX (hF.below S.be (Nat.le_refl _))).mono ?_
      rintro e w1 ⟨rfl, hb1⟩
      have hX1 := hX.below hb1 hX.lt
      have hY1 := S.bf.below hb1 (Nat.le_refl _)
      have hB1 := S.be.trans (hb1.mono S.be.size)
      clear hX hb1 S
      go_wp2_with fail
      refine (add_c (w.heap.size + 1) z _ n r t _ _ hX1).mono ?_
      rintro e w2 ⟨rfl, ⟨z2, hz2, hc2, hX2⟩, hb2⟩
      rw [HC.out] at hc2
      have S2 : Sm w w2 n (.slice a xs.length cap) r t (totC n xs r t (k + 1)) := ⟨hB1.trans (hb2.mono (by omega)), hY1.belowAt hb2 (by omega), z2, hz2, hc2, hX2⟩
      clear hX1 hY1 hB1 hc2 hX2 hb2 HC
      go_wp2_with fail
      go_roundw
      case rel => exact ⟨k + 1, by omega, by go_num, S2⟩
      case measure => simp [intOf]; omega
    · obtain rfl : k = n + 1 := by omega
      have hlt' : ¬ ((n + 1 : Nat) : Int) < (n : Int) + 1 := by omega
      obtain ⟨z, hz, hc, hX⟩ := S.bc
      have HC : Hid (cls z = totC n xs r t (n + 1)) := hc
      clear hc
      go_wp2_with fail
      refine (total_c (w.heap.size + 1) z n r t _ _ hX).mono ?_
      rintro e w3 ⟨rfl, rfl⟩
      go_wp2
      go_ret
      exact ⟨⟨z, rfl, hz, HC.out⟩, S.be⟩
end Go.Proofs.YtbkmpoeaindnaaaDoor

/- stats' column.left, missOf. -/
namespace Go.Proofs.YtbkmpoeaindnaaaDoor
open Go.RowKit Go.Shelf Rnd

/-- What is left of row i's entry behind the first m products, by class. -/
def leftC (c : Int) (xs : List Nat) (r t : Int) (ls : List Nat) (i : Nat) : Nat → Option Nat
  | 0 => cls (getN c xs r t (i : Int) c)
  | m + 1 => opC .sub (leftC c xs r t ls i m) (opC .mul (cls (getN c xs r t (i : Int) ((i + m : Nat) : Int))) (cls (ls[i + m]?.getD 0)))

set_option maxRecDepth 100000 in
set_option maxHeartbeats 2000000 in
theorem left_c (B a n i : Nat) (r t : Int) (sv lv : Value) (xs ls : List Nat) (w : World) (hn : n ≤ 6) (hi : i ≤ n) (hT : Tab w) (hX : CBox w B a n sv r t) (hF : Fls w sv xs) (hL : Fls w lv ls) (hl : ls.length = n) :
    Calls Tryd.prog 63 #[.pointer (some ⟨B, 0, none⟩), .int .i64 (i : Int), lv] w fun e w' => (∃ z, e = .returned (fl z) ∧ z < 18446744073709551616 ∧ cls z = leftC n xs r t ls i (n - i)) ∧ Below w.heap.size w w' := by
  obtain ⟨la, lcap, rfl, hlcap⟩ := hL.shape
  obtain ⟨sa, scap, rfl, hscap⟩ := hF.shape
  rw [hl] at hL hlcap ⊢
  have hm := run_op (op := .mul) (by simp) Tryd.prog 26
  have hs := run_op (op := .sub) (by simp) Tryd.prog 26
  have hG : ∀ (i j : Int), getN n xs r t i j < 18446744073709551616 := fun i j => by
    unfold getN
    split
    · exact okF_getD hF.1 _
    · decide
  go_enter Tryd.func63, Tryd.ntmps63
  go_wp2_with fail
  refine (entry_c B a n r t i _ xs _ hT hX hF).mono ?_
  rintro e w1 ⟨rfl, hb1⟩
  obtain ⟨d0, h0, hd0⟩ : ∃ d, cls d = leftC n xs r t ls i 0 ∧ getN n xs r t (i : Int) n = d := ⟨_, rfl, rfl⟩
  have hd : d0 < 18446744073709551616 := by rw [← hd0]; exact hG _ _
  rw [hd0]
  clear hd0
  have HC : Hid (cls d0 = leftC n xs r t ls i 0) := h0
  clear h0
  go_wp2_with fail
  go_loopw [7, 8] (fun d j wr => ∃ k m : Nat, k ≤ n ∧ k = i + m ∧ j = .int .i64 (k : Int) ∧ Below w.heap.size w wr ∧ ∃ z, z < 18446744073709551616 ∧ d = fl z ∧ cls z = leftC n xs r t ls i m) (fun _ j _ => n - (intOf j).toNat)
  case atStart => exact ⟨i, 0, hi, rfl, rfl, hb1, d0, hd, rfl, HC.out⟩
  case round =>
    clear HC hb1 hd
    obtain ⟨k, m, hk, hkm, rfl, hB, z, hz, rfl, hc⟩ := hrel
    have HC : Hid (cls z = leftC n xs r t ls i m) := hc
    have HK : Hid (k = i + m) := hkm
    clear hc hkm
    have hX1 := hX.below hB hX.lt
    have x0 := hX1.c0
    by_cases hlt : k < n
    · have hlt' : (k : Int) < (n : Int) := by omega
      obtain ⟨lb, off, cap', e, _, _, hcs⟩ := (hL.below hB (Nat.le_refl _)).cell (by omega)
      rw [hl] at e
      cases e
      have hcell := hcs k (by omega)
      obtain ⟨y, HY⟩ : ∃ y, Hid (ls[k]?.getD 0 = y) := ⟨_, rfl⟩
      rw [HY.out] at hcell
      clear hcs
      obtain ⟨g, HG⟩ : ∃ g, Hid (getN n xs r t i k = g) := ⟨_, rfl⟩
      have bD : Below wr.heap.size wr wr.drew := (Below.refl _ wr).drew
      have mk : ∀ w', Below wr.heap.size wr w' → (w'.cell? ⟨B, 1, none⟩ = some (.int .i64 (n : Int)) ∧ w'.cell? ⟨B, 2, none⟩ = some (.slice sa xs.length scap) ∧ w'.cell? ⟨B, 3, none⟩ = some (.int .i64 r) ∧ w'.cell? ⟨B, 4, none⟩ = some (.int .i64 t) ∧ w'.cell? ⟨lb, off + k, none⟩ = some (fl y)) := fun w' h => by
        have hX2 := hX1.below h hX1.lt
        exact ⟨hX2.c0, hX2.c1, hX2.c2, hX2.c3, (h.cell (p := ⟨lb, off + k, none⟩) (lt_of_cell hcell)).trans hcell⟩
      have kG := get_c n r t i k (.slice sa xs.length scap) xs wr.drew ((hT.below hB).below bD) ((hF.below hB (Nat.le_refl _)).below bD (Nat.le_refl _))
      rw [HG.out] at kG
      go_wp2_with fail
      obtain ⟨q0, q1, q2, q3, q4⟩ := mk wr.drew bD
      go_region_with (go_at_call 78; refine kG.mono ?_; rintro e w2 ⟨rfl, hb2⟩; have hb3 : Below wr.heap.size wr w2 := bD.trans hb2; obtain ⟨p0, p1, p2, p3, p4⟩ := mk w2 hb3)
      all_goals
        have hc2 : cls (opZ .sub z (opZ .mul g y w2) (opW .mul g y w2)) = leftC n xs r t ls i (m + 1) := by
          rw [cls_opZ, cls_opZ, HC.out]
          simp only [leftC]
          rw [← HK.out, HG.out, HY.out]
        have hz2 := opZ_lt .sub z (opZ .mul g y w2) (opW .mul g y w2)
        have hB2 := hB.trans ((below_opW (below_opW hb3 .mul g y) .sub z (opZ .mul g y w2)).mono hB.size)
        obtain ⟨z2, HZ2⟩ : ∃ z2, z2 = opZ .sub z (opZ .mul g y w2) (opW .mul g y w2) := ⟨_, rfl⟩
        obtain ⟨W2, HW2⟩ : ∃ W2, W2 = opW .sub z (opZ .mul g y w2) (opW .mul g y w2) := ⟨_, rfl⟩
        rw [← HZ2] at hc2 hz2 ⊢
        rw [← HW2] at hB2 ⊢
        have HC2 : Hid (cls z2 = leftC n xs r t ls i (m + 1)) := hc2
        clear HZ2 HW2 hc2 p0 p1 p2 p3 p4 q0 q1 q2 q3 q4 mk bD hb2 hb3 kG HC HG HY
        go_wp2_with fail
        go_roundw
        case rel => exact ⟨k + 1, m + 1, by omega, by have := HK.out; omega, by go_num, hB2, z2, hz2, rfl, HC2.out⟩
        case measure => simp [intOf]; omega
    · obtain rfl : k = n := by omega
      have hlt' : ¬ (k : Int) < (k : Int) := by omega
      have HE : Hid (k - i = m) := by show _ = _; have := HK.out; omega
      go_wp2_with fail
      go_ret
      exact ⟨⟨z, rfl, hz, by rw [HE.out]; exact HC.out⟩, hB⟩
end Go.Proofs.YtbkmpoeaindnaaaDoor

/- stats.missOf. -/
namespace Go.Proofs.YtbkmpoeaindnaaaDoor
open Go.RowKit Go.Shelf Rnd

/-- The sum of the squares of what is left of the first k rows; and with the last entry's, by class. -/
def sumC (c : Int) (n : Nat) (xs : List Nat) (r t : Int) (ls : List Nat) : Nat → Option Nat
  | 0 => some 0
  | k + 1 => asqC (sumC c n xs r t ls k) (leftC c xs r t ls k (n - k))
def missC (c : Int) (n : Nat) (xs : List Nat) (r t : Int) (ls : List Nat) : Option Nat := asqC (sumC c n xs r t ls n) (cls (getN c xs r t c c))

set_option maxRecDepth 100000 in
set_option maxHeartbeats 2000000 in
theorem missOf_c (n : Nat) (r t : Int) (sv lv : Value) (xs ls : List Nat) (w : World) (hn : n ≤ 6) (hT : Tab w) (hF : Fls w sv xs) (hL : Fls w lv ls) (hl : ls.length = n) :
    Calls Tryd.prog 38 #[fv n sv r t, lv] w fun e w' => (∃ z, e = .returned (fl z) ∧ z < 18446744073709551616 ∧ cls z = missC n n xs r t ls) ∧ Below w.heap.size w w' := by
  obtain ⟨a, cap, rfl, hcap⟩ := hF.shape
  obtain ⟨la, lcap, rfl, hlcap⟩ := hL.shape
  rw [hl] at hL hlcap ⊢
  have hB := two_below w 0 n (.slice a xs.length cap) r t
  have hX := two_col w 0 n (.slice a xs.length cap) r t
  have hY := two_fac w 0 n (.slice a xs.length cap) r t
  have S : Sm w ((w.alloc (fcells n (.slice a xs.length cap) r t)).alloc (ccells 0 n (.slice a xs.length cap) r t)) n (.slice a xs.length cap) r t (sumC n n xs r t ls 0) := ⟨hB, hY, 0, by decide, by simp only [sumC]; decide, hX⟩
  clear hB hX hY
  have HL : Hid (ls.length = n) := hl
  clear hl
  go_enter Tryd.func38, Tryd.ntmps38
  go_wp2_with fail
  go_loopw [11] (fun i wr => ∃ k : Nat, k ≤ n ∧ i = .int .i64 (k : Int) ∧ Sm w wr n (.slice a xs.length cap) r t (sumC n n xs r t ls k)) (fun i _ => n - (intOf i).toNat)
  case atStart => exact ⟨0, Nat.zero_le _, by simp, S⟩
  case round =>
    clear S
    obtain ⟨k, hk, rfl, S⟩ := hrel
    obtain ⟨z, hz, hc, hX⟩ := S.bc
    have HC : Hid (cls z = sumC n n xs r t ls k) := hc
    clear hc
    by_cases hlt : k < n
    · have hlt' : (k : Int) < (n : Int) := by omega
      go_wp2_with fail
      refine (left_c (w.heap.size + 1) z n k r t _ _ xs ls _ hn hk (hT.below S.be) hX (hF.below S.be (Nat.le_refl _)) (hL.below S.be (Nat.le_refl _)) HL.out).mono ?_
      rintro e w1 ⟨⟨y, rfl, hy, hcy⟩, hb1⟩
      have hX1 := hX.below hb1 hX.lt
      have hY1 := S.bf.below hb1 (Nat.le_refl _)
      have hB1 := S.be.trans (hb1.mono S.be.size)
      have HY : Hid (cls y = leftC n xs r t ls k (n - k)) := hcy
      clear hX hb1 S hcy
      go_wp2_with fail
      refine (add_c (w.heap.size + 1) z y n r t _ _ hX1).mono ?_
      rintro e w2 ⟨rfl, ⟨z2, hz2, hc2, hX2⟩, hb2⟩
      rw [HC.out, HY.out] at hc2
      have S2 : Sm w w2 n (.slice a xs.length cap) r t (sumC n n xs r t ls (k + 1)) := ⟨hB1.trans (hb2.mono (by omega)), hY1.belowAt hb2 (by omega), z2, hz2, hc2, hX2⟩
      clear hX1 hY1 hB1 hc2 hX2 hb2 HC HY
      go_wp2_with fail
      go_roundw
      case rel => exact ⟨k + 1, by omega, by go_num, S2⟩
      case measure => simp [intOf]; omega
    · obtain rfl : k = n := by omega
      have hlt' : ¬ (k : Int) < (k : Int) := by omega
      go_wp2_with fail
      refine (last_c (w.heap.size + 1) z k r t _ xs _ (hT.below S.be) hX (hF.below S.be (Nat.le_refl _))).mono ?_
      rintro e w1 ⟨rfl, hb1⟩
      have hX1 := hX.below hb1 hX.lt
      have hB1 := S.be.trans (hb1.mono S.be.size)
      clear hX hb1 S
      go_wp2_with fail
      refine (add_c (w.heap.size + 1) z _ k r t _ _ hX1).mono ?_
      rintro e w2 ⟨rfl, ⟨z2, hz2, hc2, hX2⟩, hb2⟩
      rw [HC.out] at hc2
      have HC2 : Hid (cls z2 = missC k k xs r t ls) := hc2
      have hB2 := hB1.trans (hb2.mono (by omega))
      clear hX1 hB1 hc2 hb2 HC
      go_wp2_with fail
      refine (total_c (w.heap.size + 1) z2 k r t _ _ hX2).mono ?_
      rintro e w3 ⟨rfl, rfl⟩
      go_wp2
      go_ret
      exact ⟨⟨z2, rfl, hz2, HC2.out⟩, hB2⟩
end Go.Proofs.YtbkmpoeaindnaaaDoor
