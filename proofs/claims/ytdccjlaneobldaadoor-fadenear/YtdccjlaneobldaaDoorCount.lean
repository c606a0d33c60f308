/- fade.May, fade.count with the closure that fades. -/
import Derived.Test.YtdccjlaneobldaaDoorFMath
import Derived.Test.YtdccjlaneobldaaDoorFBox
namespace Go.Proofs.YtdccjlaneobldaaDoor
open Go.RowKit Go.Shelf Rnd

set_option maxHeartbeats 400000 in
theorem may_c (b : Nat) (hb : b < 18446744073709551616) (w : World) (hT : Tab w) : Calls Tryd.prog 13 #[fl b] w fun e w' => e = .returned (.bool (mayB b)) ∧ w' = w := by
  by_cases h1 : 4517110426252607488 ≤ b ∧ b ≤ 9218868437227405312
  · have e1 : (FloatKind.f64.format.order b 4517110426252607488 == some .gt || FloatKind.f64.format.order b 4517110426252607488 == some .eq) = true := by rw [ge_low hb]; exact decide_eq_true h1
    by_cases h2 : b ≤ 4607182418800017408
    · have e2 : (FloatKind.f64.format.order b 4607182418800017408 == some .lt || FloatKind.f64.format.order b 4607182418800017408 == some .eq) = true := by rw [le_one h1.2]; exact decide_eq_true h2
      have HE : Hid (mayB b = true) := decide_eq_true ⟨h1.1, h2⟩
      clear h1 h2
      go_enter Tryd.func13, Tryd.ntmps13
      go_wp2_with (go_at_call 29; refine (low_c _ hT).mono ?_; rintro e w' ⟨rfl, rfl⟩)
      go_ret
      exact ⟨ret_bool HE.out.symm, rfl⟩
    · have e2 : (FloatKind.f64.format.order b 4607182418800017408 == some .lt || FloatKind.f64.format.order b 4607182418800017408 == some .eq) = false := by rw [le_one h1.2]; exact decide_eq_false h2
      have HE : Hid (mayB b = false) := decide_eq_false (fun h => h2 h.2)
      clear h1 h2
      go_enter Tryd.func13, Tryd.ntmps13
      go_wp2_with (go_at_call 29; refine (low_c _ hT).mono ?_; rintro e w' ⟨rfl, rfl⟩)
      go_ret
      exact ⟨ret_bool HE.out.symm, rfl⟩
  · have e1 : (FloatKind.f64.format.order b 4517110426252607488 == some .gt || FloatKind.f64.format.order b 4517110426252607488 == some .eq) = false := by rw [ge_low hb]; exact decide_eq_false h1
    have HE : Hid (mayB b = false) := decide_eq_false (fun h => h1 ⟨h.1, by omega⟩)
    clear h1
    go_enter Tryd.func13, Tryd.ntmps13
    go_wp2_with (go_at_call 29; refine (low_c _ hT).mono ?_; rintro e w' ⟨rfl, rfl⟩)
    go_ret
    exact ⟨ret_bool HE.out.symm, rfl⟩

theorem run_mul {x b : Nat} (hx : leH x = true) (hb : mayB b = true) : ∀ w : World, (binOp .mul 25 (fl x) (fl b)).run Tryd.prog w = .ok (fl (fadeW b x)) w :=
  fun w => run_float_arith w .mul _ _ _ _ _ (mul_fade hx hb)

set_option maxHeartbeats 400000 in
/-- The closure: an entry times the number that it captured. -/
theorem one_c (x b B : Nat) (w : World) (hx : leH x = true) (hb : mayB b = true) (hc : w.cell? ⟨B, 0, none⟩ = some (fl b)) :
    Calls Tryd.prog 28 #[fl x, .pointer (some ⟨B, 0, none⟩)] w fun e w' => e = .returned (fl (fadeW b x)) ∧ w' = w := by
  have hm := run_mul hx hb
  go_enter Tryd.func28, Tryd.ntmps28
  go_wp2
  go_ret
  exact ⟨rfl, rfl⟩

theorem RowX.set {W : World} {g cap q x : Nat} {ys : List Nat} (h : RowX W g cap ys) (hq : q < ys.length) : RowX (W.setCell ⟨g, q, none⟩ (fl x)) g cap (ys.set q x) := by
  obtain ⟨rest, h1, h2⟩ := h
  refine ⟨rest, ?_, by rw [List.length_set]; exact h2⟩
  obtain ⟨hlt, hk⟩ := Array.getElem?_eq_some_iff.1 h1
  have e : (W.setCell ⟨g, q, none⟩ (fl x)).heap[g]? = some (.cells ((ys.map fl ++ rest).toArray.setIfInBounds q (fl x)) 25 (0, 0)) := by
    show (W.heap.modify g _)[g]? = _
    rw [Array.getElem?_eq_getElem (by rw [Array.size_modify]; exact hlt), Array.getElem_modify_self, hk]
    rfl
  rw [e]
  congr 2
  rw [List.setIfInBounds_toArray]
  congr 1
  rw [List.set_append_left _ _ (by simpa using hq), List.map_set]
theorem RowX.cellq {W : World} {g cap q : Nat} {ys : List Nat} (h : RowX W g cap ys) (hq : q < ys.length) : W.cell? ⟨g, q, none⟩ = some (fl (ys[q]?.getD 0)) := by
  obtain ⟨rest, h', hc⟩ := h
  simp only [World.cell?, h']
  have e : (ys.map fl ++ rest).toArray[q]? = some (fl (ys[q]?.getD 0)) := by
    rw [List.getElem?_toArray, List.getElem?_append_left (by simpa using hq)]
    simp [hq]
  simpa using e
theorem RowX.fz {W : World} {g cap : Nat} {ys : List Nat} (h : RowX W g cap ys) (q : Nat) : W.frozen? ⟨g, q, none⟩ = false := by
  obtain ⟨rest, h', hc⟩ := h
  simp [World.frozen?, h']
@[go_sem] theorem run_store_float (P : Program) (w : World) (a : Addr) (k : FloatKind) (b : Nat) (m : Mode) : (store a (.float k b) m).run P w = stored P w a (.float k b) m := run_store P w a _ m rfl

/-- The first k entries are faded. -/
def fpart (b : Nat) (xs : List Nat) (k : Nat) : List Nat := (xs.take k).map (fadeW b) ++ xs.drop k
theorem fpart_start (b : Nat) (xs : List Nat) : fpart b xs 0 = xs := by simp [fpart]
theorem fpart_end (b : Nat) (xs : List Nat) : fpart b xs xs.length = fadeL b xs := by simp [fpart, fadeL]
theorem fpart_length {b k : Nat} {xs : List Nat} (h : k ≤ xs.length) : (fpart b xs k).length = xs.length := by simp [fpart]; omega
theorem fpart_at {b k : Nat} {xs : List Nat} (h : k < xs.length) : (fpart b xs k)[k]?.getD 0 = xs[k]?.getD 0 := by
  unfold fpart
  rw [List.getElem?_append_right (by simp; omega)]
  simp [show min k xs.length = k by omega]
theorem fpart_step {b k : Nat} {xs : List Nat} (h : k < xs.length) : (fpart b xs k).set k (fadeW b (xs[k]?.getD 0)) = fpart b xs (k + 1) := by
  unfold fpart
  have h1 : ((xs.take k).map (fadeW b)).length = k := by simp; omega
  have h2 : xs.drop k = xs[k] :: xs.drop (k + 1) := List.drop_eq_getElem_cons h
  have h3 : xs.take (k + 1) = xs.take k ++ [xs[k]] := List.take_succ_eq_append_getElem h
  have h4 : xs[k]?.getD 0 = xs[k] := by simp [h]
  rw [h4, h3, List.set_append_right _ _ (by omega), h1, Nat.sub_self, h2, List.set_cons_zero, List.map_append, List.append_assoc]
  rfl

set_option maxRecDepth 100000 in
set_option maxHeartbeats 2000000 in
/-- count: each entry of a row of the call's own is faded. -/
theorem count_c (b B g cap : Nat) (xs : List Nat) (w : World) (hX : RowX w g cap xs) (hall : xs.all leH = true) (hl : xs.length ≤ 1000) (hb : mayB b = true) (hc : w.cell? ⟨B, 0, none⟩ = some (fl b)) (hBg : B < g) :
    Calls Tryd.prog 27 #[.slice (some ⟨g, 0, none⟩) xs.length cap, .func (.func 28) #[] #[.pointer (some ⟨B, 0, none⟩)]] w fun e w' => e = .returned (.tuple #[]) ∧ RowX w' g cap (fadeL b xs) ∧ Below g w w' := by
  go_enter Tryd.func27, Tryd.ntmps27
  go_wp2_with fail
  go_loopw [8] (fun i wr => ∃ k : Nat, k ≤ xs.length ∧ i = .int .i64 (k : Int) ∧ RowX wr g cap (fpart b xs k) ∧ Below g w wr) (fun i _ => xs.length - (intOf i).toNat)
  case atStart => exact ⟨0, Nat.zero_le _, by simp, by rw [fpart_start]; exact hX, Below.refl _ _⟩
  case round =>
    obtain ⟨k, hk, rfl, hR, hB⟩ := hrel
    by_cases hlt : k < xs.length
    · have HPL : Hid ((fpart b xs k).length = xs.length) := fpart_length hk
      have hcell := hR.cellq (q := k) (by rw [HPL.out]; exact hlt)
      rw [fpart_at hlt] at hcell
      have hz := hR.fz k
      have hcB := (hB.cell (p := ⟨B, 0, none⟩) hBg).trans hc
      have hx := leH_at hall hlt
      obtain ⟨x, HX⟩ : ∃ x, Hid (xs[k]?.getD 0 = x) := ⟨_, rfl⟩
      rw [HX.out] at hcell hx
      have hkl : (k : Int) < (xs.length : Int) := by omega
      go_wp2_with (go_at_call 28; refine (one_c x b B _ hx hb hcB).mono ?_; rintro e w' ⟨rfl, rfl⟩)
      go_roundw
      case rel =>
        have h2 := hR.set (q := k) (x := fadeW b x) (by rw [HPL.out]; exact hlt)
        rw [← HX.out, fpart_step hlt, HX.out] at h2
        exact ⟨k + 1, by omega, by go_num, h2, hB.setCell (p := ⟨g, k, none⟩) (Nat.le_refl _) _⟩
      case measure => simp [intOf]; omega
    · obtain rfl : k = xs.length := by omega
      rw [fpart_end] at hR
      go_wp2_with fail
      go_end0
      exact ⟨rfl, hR, hB⟩
end Go.Proofs.YtdccjlaneobldaaDoor
