/- What fading comes to, of whole factors: whether it goes, and the entries behind it. -/
import Derived.Test.YtbkmpoeaindnaaaDoorMayB
import Derived.Test.YtbkmpoeaindnaaaDoorOwn
namespace Go.Proofs.YtbkmpoeaindnaaaDoor
open Go.RowKit Go.Shelf Rnd

theorem fadeL_length (b : Nat) (xs : List Nat) : (fadeL b xs).length = xs.length := by simp [fadeL]
theorem fadeL_at {b : Nat} {xs : List Nat} {j : Nat} (h : j < xs.length) : (fadeL b xs)[j]?.getD 0 = fadeW b (xs[j]?.getD 0) := by simp [fadeL, h]

theorem check_all {c r t : Int} {xs : List Nat} (h : checkB c xs r t = true) : xs.all leH = true := by
  unfold checkB at h
  simp only [Bool.and_eq_true] at h
  exact h.2.2.1
theorem check_turns {c r t : Int} {xs : List Nat} (h : checkB c xs r t = true) : 0 ≤ r ∧ r ≤ 200 ∧ 0 ≤ t ∧ t ≤ 4096 := by
  unfold checkB at h
  simp only [Bool.and_eq_true] at h
  exact of_decide_eq_true h.1
theorem leH_at {xs : List Nat} (h : xs.all leH = true) {j : Nat} (hj : j < xs.length) : leH (xs[j]?.getD 0) = true := by
  have := List.all_eq_true.1 h xs[j] (List.getElem_mem hj)
  simpa [hj] using this
theorem fade_ok {b : Nat} {xs : List Nat} (ho : okF xs) (h : xs.all leH = true) (hb : mayB b = true) : okF (fadeL b xs) := by
  intro y hy
  obtain ⟨x, hx, rfl⟩ := List.mem_map.1 hy
  exact fade_lt (ho x hx) (List.all_eq_true.1 h x hx) hb
theorem fade_all {b : Nat} {xs : List Nat} (ho : okF xs) (h : xs.all leH = true) (hb : mayB b = true) : (fadeL b xs).all leH = true := by
  rw [List.all_eq_true]
  intro y hy
  obtain ⟨x, hx, rfl⟩ := List.mem_map.1 hy
  exact leH_fade (ho x hx) (List.all_eq_true.1 h x hx) hb
/-- What is faded may be. -/
theorem check_fade {c r t t' : Int} {b : Nat} {xs : List Nat} (ho : okF xs) (h : checkB c xs r t = true) (hb : mayB b = true) (h0 : 0 ≤ t') (h1 : t' ≤ 4096) : checkB c (fadeL b xs) r t' = true := by
  have hall := check_all h
  have ht := check_turns h
  obtain ⟨n, rfl, hn1, hn6, hlen⟩ := check_len h
  unfold checkB at h ⊢
  simp only [Bool.and_eq_true] at h ⊢
  obtain ⟨_, hs, _, hu⟩ := h
  refine ⟨decide_eq_true ⟨ht.1, ht.2.1, h0, h1⟩, ?_, fade_all ho hall hb, ?_⟩
  · unfold shapeB at hs ⊢
    rw [fadeL_length]
    exact hs
  · unfold unsB at hu ⊢
    rw [List.all_eq_true] at hu ⊢
    intro k hk
    have hk' : k ≤ n := by have := List.mem_range.1 hk; simp at this; omega
    have hp := place_lt hn6 hk' hlen
    have h2 := hu k hk
    rw [Int.toNat_natCast] at h2 ⊢
    rw [fadeL_at hp]
    have e : sg (fadeW b (xs[place n k]?.getD 0)) = sg (xs[place n k]?.getD 0) := sg_fade (okF_getD ho _) (leH_at hall hp) hb
    rw [e]
    exact h2

/-- Faded by b, k times. -/
def fadeN (b : Nat) : Nat → List Nat → List Nat
  | 0, xs => xs
  | k + 1, xs => fadeL b (fadeN b k xs)
theorem fadeN_length (b : Nat) (xs : List Nat) : ∀ k, (fadeN b k xs).length = xs.length
  | 0 => rfl
  | k + 1 => by simp only [fadeN]; rw [fadeL_length, fadeN_length b xs k]
theorem fadeN_ok {b : Nat} {xs : List Nat} (ho : okF xs) (h : xs.all leH = true) (hb : mayB b = true) : ∀ k, okF (fadeN b k xs) ∧ (fadeN b k xs).all leH = true
  | 0 => ⟨ho, h⟩
  | k + 1 => by
    have ih := fadeN_ok ho h hb k
    exact ⟨fade_ok ih.1 ih.2 hb, fade_all ih.1 ih.2 hb⟩
theorem check_fadeN {c r t : Int} {b : Nat} {xs : List Nat} (ho : okF xs) (h : checkB c xs r t = true) (hb : mayB b = true) : ∀ (k : Nat) (t' : Int), 0 ≤ t' → t' ≤ 4096 → checkB c (fadeN b k xs) r t' = true
  | 0, t', h0, h1 => by
    unfold checkB at h ⊢
    have ht := check_turns (c := c) (xs := xs) (r := r) (t := t) (by unfold checkB; exact h)
    simp only [Bool.and_eq_true] at h ⊢
    exact ⟨decide_eq_true ⟨ht.1, ht.2.1, h0, h1⟩, h.2⟩
  | k + 1, t', h0, h1 => by
    have ih := check_fadeN ho h hb k t' h0 h1
    exact check_fade (fadeN_ok ho (check_all h) hb k).1 ih hb h0 h1

/-- The error of fading k times, and what is left: as Go's answers are. -/
def oE (c : Int) (xs : List Nat) (r t : Int) (b : Nat) (k : Int) : Int :=
  if checkB c xs r t = false ∨ k < 0 then 1 else if mayB b = false then 12 else if 4096 - t < k then 6 else 0
def oC (c : Int) (xs : List Nat) (r t : Int) (b : Nat) (k : Int) : Int := if oE c xs r t b k = 0 then c else 0
def oR (c : Int) (xs : List Nat) (r t : Int) (b : Nat) (k : Int) : Int := if oE c xs r t b k = 0 then r else 0
def oT (c : Int) (xs : List Nat) (r t : Int) (b : Nat) (k : Int) : Int := if oE c xs r t b k = 0 then t + k else 0
def oL (c : Int) (xs : List Nat) (r t : Int) (b : Nat) (k : Int) : List Nat := if oE c xs r t b k = 0 then fadeN b k.toNat xs else []

theorem oE_zero {c r t k : Int} {b : Nat} {xs : List Nat} (h : oE c xs r t b k = 0) : checkB c xs r t = true ∧ 0 ≤ k ∧ mayB b = true ∧ k ≤ 4096 - t := by
  unfold oE at h
  split at h
  · cases h
  · next h1 =>
    split at h
    · cases h
    · next h2 =>
      split at h
      · cases h
      · next h3 =>
        refine ⟨?_, by omega, by simpa using h2, by omega⟩
        cases hc : checkB c xs r t with
        | true => rfl
        | false => exact absurd (.inl hc) h1
theorem oE_yes {c r t k : Int} {b : Nat} {xs : List Nat} (h1 : checkB c xs r t = true) (h2 : 0 ≤ k) (h3 : mayB b = true) (h4 : k ≤ 4096 - t) : oE c xs r t b k = 0 := by
  unfold oE
  rw [if_neg (by rw [h1]; simp; omega), if_neg (by rw [h3]; simp), if_neg (by omega)]
theorem oE_arg {c r t k : Int} {b : Nat} {xs : List Nat} (h : checkB c xs r t = false ∨ k < 0) : oE c xs r t b k = 1 := by unfold oE; rw [if_pos h]
theorem oE_may {c r t k : Int} {b : Nat} {xs : List Nat} (h1 : checkB c xs r t = true) (h2 : 0 ≤ k) (h3 : mayB b = false) : oE c xs r t b k = 12 := by
  unfold oE
  rw [if_neg (by rw [h1]; simp; omega), if_pos h3]
theorem oE_full {c r t k : Int} {b : Nat} {xs : List Nat} (h1 : checkB c xs r t = true) (h2 : 0 ≤ k) (h3 : mayB b = true) (h4 : 4096 - t < k) : oE c xs r t b k = 6 := by
  unfold oE
  rw [if_neg (by rw [h1]; simp; omega), if_neg (by rw [h3]; simp), if_pos h4]
theorem o_no {c r t k : Int} {b : Nat} {xs : List Nat} (h : oE c xs r t b k ≠ 0) : oC c xs r t b k = 0 ∧ oR c xs r t b k = 0 ∧ oT c xs r t b k = 0 ∧ oL c xs r t b k = [] := by
  unfold oC oR oT oL
  simp [h]
theorem o_yes {c r t k : Int} {b : Nat} {xs : List Nat} (h : oE c xs r t b k = 0) : oC c xs r t b k = c ∧ oR c xs r t b k = r ∧ oT c xs r t b k = t + k ∧ oL c xs r t b k = fadeN b k.toNat xs := by
  unfold oC oR oT oL
  simp [h]
end Go.Proofs.YtbkmpoeaindnaaaDoor
