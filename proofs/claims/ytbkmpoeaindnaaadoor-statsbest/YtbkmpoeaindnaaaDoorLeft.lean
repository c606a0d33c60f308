/- stats' column.left, missOf. -/
import Derived.Test.YtbkmpoeaindnaaaDoorRest
namespace Go.Proofs.YtbkmpoeaindnaaaDoor
open Go.RowKit Go.Shelf Rnd

/-- What is left of row i's entry behind the first m products, by class. -/
def leftC (c : Int) (xs : List Nat) (r t : Int) (ls : List Nat) (i : Nat) : Nat → Option Nat
  | 0 => cls (getN c xs r t (i : Int) c)
  | m + 1 => opC .sub (leftC c xs r t ls i m) (opC .mul (cls (getN c xs r t (i : Int) ((i + m : Nat) : Int))) (cls (ls[i + m]?.getD 0)))

set_option maxRecDepth 100000 in
set_option maxHeartbeats 2000000 in
theorem left_c (B a n i : Nat) (r t : Int) (sv lv : Value) (xs ls : List Nat) (w : World) (hn : n ≤ 6) (hi : i ≤ n) (hT : Tab w) (hX : CBox w B a n sv r t) (hF : Fls w sv xs) (hL : Fls w lv ls) (hl : ls.length = n) :
    Calls Tryd.prog 63 #[.pointer (some ⟨B, 0, none⟩), .int .i64 (i : Int), lv] w fun e w' => (∃ z, e = .returned (fl z) ∧ z < 18446744073709551616 ∧ cls z = leftC n xs r t ls i (n - i)) ∧ Below w.heap.size w w' := by
  obtain ⟨la, lcap, rfl, hlcap⟩ := hL.shape
  obtain ⟨sa, scap, rfl, hscap⟩ := hF.shape
  rw [hl] at hL hlcap ⊢
  have hm := run_op (op := .mul) (by simp) Tryd.prog 26
  have hs := run_op (op := .sub) (by simp) Tryd.prog 26
  have hG : ∀ (i j : Int), getN n xs r t i j < 18446744073709551616 := fun i j => by
    unfold getN
    split
    · exact okF_getD hF.1 _
    · decide
  go_enter Tryd.func63, Tryd.ntmps63
  go_wp2_with fail
  refine (entry_c B a n r t i _ xs _ hT hX hF).mono ?_
  rintro e w1 ⟨rfl, hb1⟩
  obtain ⟨d0, h0, hd0⟩ : ∃ d, cls d = leftC n xs r t ls i 0 ∧ getN n xs r t (i : Int) n = d := ⟨_, rfl, rfl⟩
  have hd : d0 < 18446744073709551616 := by rw [← hd0]; exact hG _ _
  rw [hd0]
  clear hd0
  have HC : Hid (cls d0 = leftC n xs r t ls i 0) := h0
  clear h0
  go_wp2_with fail
  go_loopw [7, 8] (fun d j wr => ∃ k m : Nat, k ≤ n ∧ k = i + m ∧ j = .int .i64 (k : Int) ∧ Below w.heap.size w wr ∧ ∃ z, z < 18446744073709551616 ∧ d = fl z ∧ cls z = leftC n xs r t ls i m) (fun _ j _ => n - (intOf j).toNat)
  case atStart => exact ⟨i, 0, hi, rfl, rfl, hb1, d0, hd, rfl, HC.out⟩
  case round =>
    clear HC hb1 hd
    obtain ⟨k, m, hk, hkm, rfl, hB, z, hz, rfl, hc⟩ := hrel
    have HC : Hid (cls z = leftC n xs r t ls i m) := hc
    have HK : Hid (k = i + m) := hkm
    clear hc hkm
    have hX1 := hX.below hB hX.lt
    have x0 := hX1.c0
    by_cases hlt : k < n
    · have hlt' : (k : Int) < (n : Int) := by omega
      obtain ⟨lb, off, cap', e, _, _, hcs⟩ := (hL.below hB (Nat.le_refl _)).cell (by omega)
      rw [hl] at e
      cases e
      have hcell := hcs k (by omega)
      obtain ⟨y, HY⟩ : ∃ y, Hid (ls[k]?.getD 0 = y) := ⟨_, rfl⟩
      rw [HY.out] at hcell
      clear hcs
      obtain ⟨g, HG⟩ : ∃ g, Hid (getN n xs r t i k = g) := ⟨_, rfl⟩
      have bD : Below wr.heap.size wr wr.drew := (Below.refl _ wr).drew
      have mk : ∀ w', Below wr.heap.size wr w' → (w'.cell? ⟨B, 1, none⟩ = some (.int .i64 (n : Int)) ∧ w'.cell? ⟨B, 2, none⟩ = some (.slice sa xs.length scap) ∧ w'.cell? ⟨B, 3, none⟩ = some (.int .i64 r) ∧ w'.cell? ⟨B, 4, none⟩ = some (.int .i64 t) ∧ w'.cell? ⟨lb, off + k, none⟩ = some (fl y)) := fun w' h => by
        have hX2 := hX1.below h hX1.lt
        exact ⟨hX2.c0, hX2.c1, hX2.c2, hX2.c3, (h.cell (p := ⟨lb, off + k, none⟩) (lt_of_cell hcell)).trans hcell⟩
      have kG := get_c n r t i k (.slice sa xs.length scap) xs wr.drew ((hT.below hB).below bD) ((hF.below hB (Nat.le_refl _)).below bD (Nat.le_refl _))
      rw [HG.out] at kG
      go_wp2_with fail
      obtain ⟨q0, q1, q2, q3, q4⟩ := mk wr.drew bD
      go_region_with (go_at_call 78; refine kG.mono ?_; rintro e w2 ⟨rfl, hb2⟩; have hb3 : Below wr.heap.size wr w2 := bD.trans hb2; obtain ⟨p0, p1, p2, p3, p4⟩ := mk w2 hb3)
      all_goals
        have hc2 : cls (opZ .sub z (opZ .mul g y w2) (opW .mul g y w2)) = leftC n xs r t ls i (m + 1) := by
          rw [cls_opZ, cls_opZ, HC.out]
          simp only [leftC]
          rw [← HK.out, HG.out, HY.out]
        have hz2 := opZ_lt .sub z (opZ .mul g y w2) (opW .mul g y w2)
        have hB2 := hB.trans ((below_opW (below_opW hb3 .mul g y) .sub z (opZ .mul g y w2)).mono hB.size)
        obtain ⟨z2, HZ2⟩ : ∃ z2, z2 = opZ .sub z (opZ .mul g y w2) (opW .mul g y w2) := ⟨_, rfl⟩
        obtain ⟨W2, HW2⟩ : ∃ W2, W2 = opW .sub z (opZ .mul g y w2) (opW .mul g y w2) := ⟨_, rfl⟩
        rw [← HZ2] at hc2 hz2 ⊢
        rw [← HW2] at hB2 ⊢
        have HC2 : Hid (cls z2 = leftC n xs r t ls i (m + 1)) := hc2
        clear HZ2 HW2 hc2 p0 p1 p2 p3 p4 q0 q1 q2 q3 q4 mk bD hb2 hb3 kG HC HG HY
        go_wp2_with fail
        go_roundw
        case rel => exact ⟨k + 1, m + 1, by omega, by have := HK.out; omega, by go_num, hB2, z2, hz2, rfl, HC2.out⟩
        case measure => simp [intOf]; omega
    · obtain rfl : k = n := by omega
      have hlt' : ¬ (k : Int) < (k : Int) := by omega
      have HE : Hid (k - i = m) := by show _ = _; have := HK.out; omega
      go_wp2_with fail
      go_ret
      exact ⟨⟨z, rfl, hz, by rw [HE.out]; exact HC.out⟩, hB⟩
end Go.Proofs.YtbkmpoeaindnaaaDoor
