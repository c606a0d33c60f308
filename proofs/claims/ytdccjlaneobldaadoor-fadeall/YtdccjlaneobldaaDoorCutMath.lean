/- Lists of numbers to fade by: cut in two, and of one number alone. -/
import Derived.Test.YtdccjlaneobldaaDoorAMath
namespace Go.Proofs.YtdccjlaneobldaaDoor
open Go.RowKit Go.Shelf Rnd

theorem allR_full {c r : Int} : ∀ (l xs : List Nat) (t : Int), (allR c r l xs t).2.2 = 0 → (allR c r l xs t).1 = l.length
  | [], xs, t, _ => rfl
  | b :: l, xs, t, h => by
    simp only [allR] at h ⊢
    by_cases he : oE c xs r t b 1 = 0
    · rw [if_pos he] at h ⊢
      simp only [List.length_cons]
      rw [allR_full l _ _ h]
    · rw [if_neg he] at h
      exact absurd h he
theorem allR_cut {c r : Int} : ∀ (l1 l2 xs : List Nat) (t : Int) (ys : List Nat), okF xs → checkB c xs r t = true → allR c r (l1 ++ l2) xs t = (l1.length + l2.length, ys, 0) →
    ∃ ys1, okF ys1 ∧ checkB c ys1 r (t + l1.length) = true ∧ allR c r l1 xs t = (l1.length, ys1, 0) ∧ allR c r l2 ys1 (t + l1.length) = (l2.length, ys, 0)
  | [], l2, xs, t, ys, ho, hc, h => by
    refine ⟨xs, ho, by simpa using hc, rfl, ?_⟩
    simpa using h
  | b :: l1, l2, xs, t, ys, ho, hc, h => by
    simp only [List.cons_append, allR, List.length_cons] at h ⊢
    by_cases he : oE c xs r t b 1 = 0
    · rw [if_pos he] at h ⊢
      obtain ⟨_, _, h3, h4⟩ := oE_zero he
      have ht := check_turns hc
      simp only [Prod.mk.injEq] at h
      have hh : allR c r (l1 ++ l2) (fadeL b xs) (t + 1) = (l1.length + l2.length, ys, 0) := by
        apply Prod.ext
        · simp only
          omega
        · exact h.2
      obtain ⟨ys1, k1, k2, k3, k4⟩ := allR_cut l1 l2 (fadeL b xs) (t + 1) ys (fade_ok ho (check_all hc) h3) (check_fade ho hc h3 (by omega) (by omega)) hh
      have e : t + ((l1.length + 1 : Nat) : Int) = t + 1 + (l1.length : Int) := by omega
      refine ⟨ys1, k1, by rw [e]; exact k2, by rw [k3], by rw [e]; exact k4⟩
    · rw [if_neg he] at h
      simp only [Prod.mk.injEq] at h
      exact absurd h.2.2 he
theorem fadeN_comm (b : Nat) (xs : List Nat) : ∀ n, fadeN b n (fadeL b xs) = fadeL b (fadeN b n xs)
  | 0 => rfl
  | n + 1 => by simp only [fadeN]; rw [fadeN_comm b xs n]
theorem allR_same {c r : Int} {b : Nat} (hb : mayB b = true) : ∀ (n : Nat) (xs : List Nat) (t : Int), okF xs → checkB c xs r t = true → t + n ≤ 4096 → allR c r (List.replicate n b) xs t = (n, fadeN b n xs, 0)
  | 0, xs, t, _, _, _ => rfl
  | n + 1, xs, t, ho, hc, hn => by
    have ht := check_turns hc
    have he : oE c xs r t b 1 = 0 := oE_yes hc (by decide) hb (by omega)
    rw [List.replicate_succ]
    simp only [allR]
    rw [if_pos he, allR_same hb n (fadeL b xs) (t + 1) (fade_ok ho (check_all hc) hb) (check_fade ho hc hb (by omega) (by omega)) (by omega), fadeN_comm]
    rfl
theorem a_zero {c r t : Int} {l xs : List Nat} (h : aE c xs r t l = 0) : checkB c xs r t = true ∧ ∃ ys, allR c r l xs t = (l.length, ys, 0) := by
  unfold aE at h
  by_cases hc : checkB c xs r t = true
  · rw [if_pos hc] at h
    refine ⟨hc, (allR c r l xs t).2.1, ?_⟩
    apply Prod.ext
    · exact allR_full l xs t h
    · exact Prod.ext rfl h
  · rw [if_neg hc] at h
    cases h
/-- What all goes of a list, and then of its parts, and of its first number alone. -/
theorem all_parts {c r t : Int} {l xs ys : List Nat} (ho : okF xs) (hc : checkB c xs r t = true) (h : allR c r l xs t = (l.length, ys, 0)) (q : Nat) (hq : q ≤ l.length) :
    (∃ ys1, okF ys1 ∧ checkB c ys1 r (t + q) = true ∧ allR c r (l.take q) xs t = (q, ys1, 0) ∧ allR c r (l.drop q) ys1 (t + q) = (l.length - q, ys, 0)) ∧ t + l.length ≤ 4096 ∧ (0 < l.length → mayB (l[0]?.getD 0) = true) := by
  refine ⟨?_, ?_, ?_⟩
  · have h1 : (l.take q).length = q := by simp; omega
    have h2 : (l.drop q).length = l.length - q := by simp
    have h3 := allR_cut (c := c) (r := r) (l.take q) (l.drop q) xs t ys ho hc (by rw [List.take_append_drop, h, h1, h2]; congr 1; omega)
    rw [h1, h2] at h3
    exact h3
  · have h3 := allR_cut (c := c) (r := r) l [] xs t ys ho hc (by rw [List.append_nil, h]; rfl)
    obtain ⟨ys1, _, k2, _⟩ := h3
    have := check_turns k2
    omega
  · intro h0
    cases l with
    | nil => simp at h0
    | cons b l =>
      simp only [allR] at h
      by_cases he : oE c xs r t b 1 = 0
      · exact (oE_zero he).2.2.1
      · rw [if_neg he] at h
        simp only [Prod.mk.injEq] at h
        exact absurd h.2.2 he

/-- A list's first q, and all but these: what slicing comes to. -/
theorem slice_take (la : Option Addr) (lcap q : Nat) (l : List Nat) (hq : q ≤ l.length) (hc : l.length ≤ lcap) :
    ∃ v, (∀ w : World, (Instr.sliceAt 22 (.slice la l.length lcap) none (some (.int .i64 (q : Int))) none).run Tryd.prog w = .ok v w) ∧ ∀ W, Fls W (.slice la l.length lcap) l → Fls W v (l.take q) := by
  refine ⟨.slice (if lcap = 0 then la else la.map (·.add 0)) q lcap, fun w => ?_, fun W h => ?_⟩
  · have h2 : (q : Int) ≤ (lcap : Int) := by omega
    simp [go_sem, h2]
  · obtain ⟨h1, h2, h3⟩ := h
    refine ⟨fun x hx => h1 x (List.mem_of_mem_take hx), by simp; omega, ?_⟩
    rcases h3 with ⟨rfl, _⟩ | ⟨b, off, cap', e, hc', hj⟩
    · have : q = 0 := by simpa using hq
      subst this
      exact .inl ⟨by simp, _, _, rfl⟩
    · have hl : (l.take q).length = q := by simp; omega
      cases e
      rcases Nat.eq_zero_or_pos q with h0 | h0
      · subst h0
        exact .inl ⟨by simp, _, _, rfl⟩
      · rw [if_neg (by omega)]
        refine .inr ⟨b, off, lcap, ?_, by omega, fun j hjl => ?_⟩
        · rw [hl]
          simp [Option.map, add_none]
        · rw [hl] at hjl
          rw [hj j (by omega)]
          simp [hjl]
theorem slice_drop (la : Option Addr) (lcap q : Nat) (l : List Nat) (hq : q ≤ l.length) (hc : l.length ≤ lcap) :
    ∃ v, (∀ w : World, (Instr.sliceAt 22 (.slice la l.length lcap) (some (.int .i64 (q : Int))) none none).run Tryd.prog w = .ok v w) ∧ ∀ W, Fls W (.slice la l.length lcap) l → Fls W v (l.drop q) := by
  refine ⟨.slice (if lcap = q then la else la.map (·.add q)) (l.length - q) (lcap - q), fun w => ?_, fun W h => ?_⟩
  · have h2 : (q : Int) ≤ (l.length : Int) := by omega
    simp [go_sem, h2]
  · obtain ⟨h1, h2, h3⟩ := h
    refine ⟨fun x hx => h1 x (List.mem_of_mem_drop hx), by simp; omega, ?_⟩
    rcases h3 with ⟨rfl, _⟩ | ⟨b, off, cap', e, hc', hj⟩
    · exact .inl ⟨by simp, (if lcap = q then la else la.map (·.add q)), lcap - q, by simp⟩
    · have hl : (l.drop q).length = l.length - q := by simp
      cases e
      rcases Nat.eq_zero_or_pos (l.length - q) with h0 | h0
      · rw [h0]
        exact .inl ⟨List.drop_eq_nil_of_le (by omega), _, _, rfl⟩
      · rw [if_neg (by omega)]
        refine .inr ⟨b, off + q, lcap - q, ?_, by omega, fun j hjl => ?_⟩
        · rw [hl]
          simp [Option.map, add_none]
        · rw [hl] at hjl
          have := hj (q + j) (by omega)
          rw [← Nat.add_assoc] at this
          rw [this]
          simp [List.getElem?_drop]
end Go.Proofs.YtdccjlaneobldaaDoor
