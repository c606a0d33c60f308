/- Entries of a factor with a row set. -/
import Derived.Test.YtaglfndhgdolfaaDoorSet
namespace Go.Proofs.YtaglfndhgdolfaaDoor
open Go.RowKit Go.Shelf

theorem getD_splice (L : List Nat) (off : Nat) (cs : List Nat) (h : off + cs.length ≤ L.length) (q : Nat) :
    (splice L off cs)[q]?.getD 0 = if off ≤ q ∧ q < off + cs.length then cs[q - off]?.getD 0 else L[q]?.getD 0 := by
  unfold splice
  have h1 : (L.take off).length = off := by simp; omega
  by_cases c1 : q < off
  · rw [List.getElem?_append_left (by omega), if_neg (by omega), List.getElem?_take_of_lt c1]
  · rw [List.getElem?_append_right (by omega), h1]
    by_cases c2 : q < off + cs.length
    · rw [List.getElem?_append_left (by omega), if_pos (by omega)]
    · rw [List.getElem?_append_right (by omega), if_neg (by omega), List.getElem?_drop]
      congr 2; omega

theorem place_succ (n r : Nat) : place n (r + 1) = place n r + (n + 1 - r) := rfl
theorem place_mono (n : Nat) {r s : Nat} (h : r ≤ s) : place n r ≤ place n s := by
  induction h with
  | refl => exact Nat.le_refl _
  | step _ ih => rw [place_succ]; omega

theorem set_at {n i : Nat} {xs l : List Nat} (h6 : n ≤ 6) (hi : i ≤ n) (hl : xs.length = (n + 1) * (n + 2) / 2) (hll : l.length = n + 1) (q : Nat) :
    (setN n xs i l)[q]?.getD 0 = if place n i ≤ q ∧ q < place n (i + 1) then l[i + (q - place n i)]?.getD 0 else xs[q]?.getD 0 := by
  have hp := place_in n h6 i hi
  unfold setN
  rw [getD_splice _ _ _ (by simp; omega), List.length_drop, List.getElem?_drop, place_succ, hll]

theorem getN_yes {n row col : Nat} {r t : Int} {xs : List Nat} (h1 : inTri n row col) (h2 : checkB n xs r t = true) : getN n xs r t row col = xs[place n row + (col - row)]?.getD 0 := by
  unfold getN
  rw [if_pos ⟨h1, h2⟩]
  simp only [Int.toNat_natCast]
theorem getN_no {c r t i j : Int} {xs : List Nat} (h : ¬ inTri c i j) : getN c xs r t i j = 0 := by
  unfold getN
  rw [if_neg (fun h' => h h'.1)]

/-- What is got of a factor with row i set. -/
theorem get_set {n i : Nat} {r t : Int} {xs l : List Nat} (hi : i ≤ n) (hck : checkB n xs r t = true) (hck' : checkB n (setN n xs i l) r t = true) (hll : l.length = n + 1) (row col : Nat) (hc : col ≤ n) :
    getN n (setN n xs i l) r t row col = if row = i ∧ i ≤ col then l[col]?.getD 0 else getN n xs r t row col := by
  obtain ⟨n', hn', h1, h6, hl⟩ := check_len hck
  obtain rfl : n = n' := by omega
  by_cases hin : inTri n row col
  · have hrc : row ≤ col := by have := hin.2.2.1; omega
    rw [getN_yes hin hck', getN_yes hin hck, set_at h6 hi hl hll]
    by_cases hr : row = i
    · subst hr
      have e1 : (if place n row ≤ place n row + (col - row) ∧ place n row + (col - row) < place n (row + 1) then l[row + (place n row + (col - row) - place n row)]?.getD 0 else xs[place n row + (col - row)]?.getD 0) = l[col]?.getD 0 := by
        rw [if_pos ⟨by omega, by rw [place_succ]; omega⟩]
        congr 2; omega
      rw [e1, if_pos ⟨rfl, hrc⟩]
    · have e1 : ¬ (place n i ≤ place n row + (col - row) ∧ place n row + (col - row) < place n (i + 1)) := by
        rintro ⟨h2, h3⟩
        rcases Nat.lt_or_ge row i with h4 | h4
        · have h5 := place_mono n (show row + 1 ≤ i by omega)
          rw [place_succ] at h5
          omega
        · have h5 := place_mono n (show i + 1 ≤ row by omega)
          omega
      have e2 : ¬ (row = i ∧ i ≤ col) := fun h => hr h.1
      rw [if_neg e1, if_neg e2]
  · have e2 : ¬ (row = i ∧ i ≤ col) := by
      rintro ⟨rfl, h2⟩
      exact hin ⟨⟨by omega, by omega⟩, by omega, by omega, by omega⟩
    rw [getN_no hin, getN_no hin, if_neg e2]

/-- Every place is of a row. -/
theorem row_of (n q : Nat) : ∀ k, k ≤ n + 1 → q < place n k → ∃ r j, r < k ∧ j ≤ n - r ∧ q = place n r + j := by
  intro k
  induction k with
  | zero => intro _ h; simp [place] at h
  | succ k ih =>
    intro hk h
    by_cases h1 : q < place n k
    · obtain ⟨r, j, h2, h3, h4⟩ := ih (by omega) h1
      exact ⟨r, j, by omega, h3, h4⟩
    · rw [place_succ] at h
      exact ⟨k, q - place n k, by omega, by omega, by omega⟩
end Go.Proofs.YtaglfndhgdolfaaDoor
