/- Lines of a factor, set one behind the other: what is kept. -/
import Derived.Test.YtaglfndhgdolfaaDoorTriMath
namespace Go.Proofs.YtaglfndhgdolfaaDoor
open Go.RowKit Go.Shelf

/-- Which row comes at step k. -/
def sig (n : Nat) (h : Int) (k : Nat) : Nat := if 1 ≤ h ∧ h ≤ (n : Int) then (k + h.toNat) % (n + 1) else k
theorem sig_le {n k : Nat} (h : Int) (hk : k ≤ n) : sig n h k ≤ n := by
  unfold sig; split
  · have := Nat.mod_lt (k + h.toNat) (show 0 < n + 1 by omega); omega
  · exact hk
theorem sig_all {n r : Nat} (h : Int) (hr : r ≤ n) : ∃ k, k < n + 1 ∧ sig n h k = r := by
  unfold sig
  by_cases c : 1 ≤ h ∧ h ≤ (n : Int)
  · simp only [if_pos c]
    obtain ⟨m, rfl⟩ : ∃ m : Nat, h = (m : Int) := ⟨h.toNat, by omega⟩
    simp only [Int.toNat_natCast]
    by_cases h1 : m ≤ r
    · exact ⟨r - m, by omega, by rw [show r - m + m = r by omega]; exact Nat.mod_eq_of_lt (by omega)⟩
    · exact ⟨r + (n + 1) - m, by omega, by rw [show r + (n + 1) - m + m = r + (n + 1) by omega, Nat.add_mod_right]; exact Nat.mod_eq_of_lt (by omega)⟩
  · simp only [if_neg c]
    exact ⟨r, by omega, rfl⟩

/-- What is kept while lines are set. -/
def Kept (n : Nat) (xs : List Nat) (h : Int) (k : Nat) (ys : List Nat) : Prop :=
  ys.length = xs.length ∧ (∀ q : Nat, ys[q]?.getD 0 = xs[q]?.getD 0 ∨ ys[q]?.getD 0 = 0) ∧
  ∀ j, j < k → ∀ q, place n (sig n h j) ≤ q → q < place n (sig n h j + 1) → ys[q]?.getD 0 = xs[q]?.getD 0

theorem line_drop (n i : Nat) (xs : List Nat) : (lineN n xs i).drop i = (xs.drop (place n i)).take (n + 1 - i) := by
  unfold lineN
  rw [List.drop_append_of_le_length (by simp), List.drop_eq_nil_of_le (by simp), List.nil_append]

theorem line_at {n i : Nat} {xs : List Nat} (_h6 : n ≤ 6) (_hi : i ≤ n) {q : Nat} (h1 : place n i ≤ q) (h2 : q < place n (i + 1)) : (lineN n xs i)[i + (q - place n i)]?.getD 0 = xs[q]?.getD 0 := by
  rw [← List.getElem?_drop, line_drop]
  rw [place_succ] at h2
  rw [List.getElem?_take_of_lt (by omega), List.getElem?_drop]
  congr 2; omega

theorem Kept.start (n : Nat) (xs : List Nat) (h : Int) : Kept n xs h 0 (List.replicate xs.length 0) := by
  refine ⟨by simp, fun q => .inr ?_, fun j hj => absurd hj (by omega)⟩
  by_cases hq : q < xs.length <;> simp [hq]

theorem Kept.step {n k : Nat} {xs ys : List Nat} {h : Int} (h6 : n ≤ 6) (hk : k ≤ n) (hl : xs.length = (n + 1) * (n + 2) / 2) (H : Kept n xs h k ys) :
    Kept n xs h (k + 1) (setN n ys (sig n h k) (lineN n xs (sig n h k))) := by
  obtain ⟨h1, h2, h3⟩ := H
  have hs := sig_le h hk
  have hll := line_length h6 hs hl
  have key : ∀ q, (setN n ys (sig n h k) (lineN n xs (sig n h k)))[q]?.getD 0 = if place n (sig n h k) ≤ q ∧ q < place n (sig n h k + 1) then xs[q]?.getD 0 else ys[q]?.getD 0 := by
    intro q
    rw [set_at h6 hs (h1.trans hl) hll]
    by_cases c : place n (sig n h k) ≤ q ∧ q < place n (sig n h k + 1)
    · rw [if_pos c, if_pos c, line_at h6 hs c.1 c.2]
    · rw [if_neg c, if_neg c]
  refine ⟨by rw [set_length h6 hs (h1.trans hl) hll]; exact h1, fun q => ?_, fun j hj q hq1 hq2 => ?_⟩
  · rw [key]; split
    · exact .inl rfl
    · exact h2 q
  · rw [key]; split
    · rfl
    · next c =>
      rcases Nat.lt_or_ge j k with hjk | hjk
      · exact h3 j hjk q hq1 hq2
      · obtain rfl : j = k := by omega
        exact absurd ⟨hq1, hq2⟩ c

theorem Kept.done {n : Nat} {xs ys : List Nat} {h : Int} (hp : xs.length = place n (n + 1)) (H : Kept n xs h (n + 1) ys) : ys = xs := by
  obtain ⟨h1, _, h3⟩ := H
  apply List.ext_getElem h1
  intro q hq1 hq2
  obtain ⟨r, j, hr, hj, hq⟩ := row_of n q (n + 1) (Nat.le_refl _) (by omega)
  obtain ⟨k, hk, e⟩ := sig_all (n := n) (r := r) h (by omega)
  have := h3 k hk q (by rw [e]; omega) (by rw [e, place_succ]; omega)
  simpa [hq1, hq2] using this

theorem leH_zero : leH 0 = true := by decide +kernel

theorem check_parts {n : Nat} {xs : List Nat} {m t : Int} (h : checkB n xs m t = true) : shapeB n xs = true ∧ xs.all leH = true ∧ unsB n xs = true := by
  unfold checkB at h
  simp only [Bool.and_eq_true, Int.toNat_natCast] at h
  exact ⟨h.2.1, h.2.2.1, h.2.2.2⟩

theorem Kept.check {n k : Nat} {xs ys : List Nat} {h m t : Int} (hck : checkB n xs m t = true) (H : Kept n xs h k ys) : checkB n ys 0 0 = true := by
  obtain ⟨h1, h2, h3⟩ := check_parts hck
  have e1 : shapeB n ys = true := by
    unfold shapeB at h1 ⊢
    rw [H.1]; exact h1
  have e2 : ys.all leH = true := by
    rw [List.all_eq_true] at h2 ⊢
    intro y hy
    obtain ⟨q, hq, rfl⟩ := List.getElem_of_mem hy
    have hqx : q < xs.length := by rw [← H.1]; exact hq
    rcases H.2.1 q with h4 | h4
    · simp only [List.getElem?_eq_getElem hq, List.getElem?_eq_getElem hqx, Option.getD_some] at h4
      rw [h4]; exact h2 _ (List.getElem_mem hqx)
    · simp only [List.getElem?_eq_getElem hq, Option.getD_some] at h4
      rw [h4]; exact leH_zero
  have e3 : unsB n ys = true := by
    unfold unsB at h3 ⊢
    rw [List.all_eq_true] at h3 ⊢
    intro r hr
    rcases H.2.1 (place n r) with h4 | h4
    · rw [h4]; exact h3 r hr
    · rw [h4]; rfl
  unfold checkB
  rw [e1, e2, Int.toNat_natCast, e3]
  rfl
end Go.Proofs.YtaglfndhgdolfaaDoor
