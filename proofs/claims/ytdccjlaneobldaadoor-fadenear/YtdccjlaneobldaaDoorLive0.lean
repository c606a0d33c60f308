/- What levellinglaw12.live asks, at its numbers. -/
import Derived.Test.YtdccjlaneobldaaDoorAll
import Derived.Test.YtdccjlaneobldaaDoorRefSame
namespace Go.Proofs.YtdccjlaneobldaaDoor
open Go.RowKit Go.Shelf Rnd

/-- 3, -1, 2; once and twice times a half. -/
def X3 : List Nat := [4613937818241073152, 13830554455654793216, 4611686018427387904]
def G1 : List Nat := [4609434218613702656, 13826050856027422720, 4607182418800017408]
def G2 : List Nat := [4604930618986332160, 13821547256400052224, 4602678819172646912]
theorem okX3 : okF X3 := by intro x hx; simp [X3] at hx; omega
theorem fade1 : fadeL 4602678819172646912 X3 = G1 := by decide +kernel
theorem fade2 : fadeL 4602678819172646912 G1 = G2 := by decide +kernel
theorem ckX3 : checkB 1 X3 2 4 = true := by decide +kernel
theorem may_half : mayB 4602678819172646912 = true := by decide
theorem e_half : oE 1 X3 2 4 4602678819172646912 1 = 0 := oE_yes ckX3 (by decide) may_half (by decide)
theorem e_two : oE 1 X3 2 4 4602678819172646912 2 = 0 := oE_yes ckX3 (by decide) may_half (by decide)
theorem e_many : oE 1 X3 2 4 4602678819172646912 5000 = 6 := oE_full ckX3 (by decide) may_half (by decide)
theorem e_more : oE 1 X3 2 4 4609434218613702656 1 = 12 := oE_may ckX3 (by decide) (by decide)
theorem e_zero : oE 0 [] 0 0 4607182418800017408 1 = 1 := oE_arg (.inl (by decide +kernel))
theorem r_list : allR 1 2 [4602678819172646912, 0] X3 4 = (1, G1, 12) := by
  have h1 : oE 1 G1 2 (4 + 1) 0 1 = 12 := oE_may (by decide +kernel) (by decide) (by decide)
  simp only [allR]
  rw [if_pos e_half, fade1, h1, if_neg (by decide)]

theorem live_half (sv : Value) (w : World) (hT : Tab w) (hF : Fls w sv X3) : Calls Tryd.prog 9 #[fv 1 sv 2 4, fl 4602678819172646912] w fun e w' =>
    (∃ b off cap, e = .returned (.tuple #[fv 1 (.slice (some ⟨b, off, none⟩) 3 cap) 2 5, .int .i64 0]) ∧ Fls w' (.slice (some ⟨b, off, none⟩) 3 cap) G1) ∧ Below w.heap.size w w' := by
  have h := factor_all 1 2 4 4602678819172646912 sv X3 w hT hF (by decide)
  unfold FadeC at h
  obtain ⟨e1, e2, e3, e4⟩ := o_yes e_half
  rw [e1, e2, e3, e4, e_half] at h
  refine h.mono ?_
  rintro e w' ⟨⟨a, len, cap, rfl, hf⟩, hb⟩
  have e5 : fadeN 4602678819172646912 (1 : Int).toNat X3 = G1 := fade1
  rw [e5] at hf
  obtain ⟨b, off, cap', e, _, _, _⟩ := hf.cell (by decide)
  cases e
  exact ⟨⟨b, off, cap, rfl, hf⟩, hb⟩
theorem live_two (sv : Value) (w : World) (hT : Tab w) (hF : Fls w sv X3) : Calls Tryd.prog 11 #[fv 1 sv 2 4, fl 4602678819172646912, .int .i64 2] w fun e w' =>
    (∃ b off cap, e = .returned (.tuple #[fv 1 (.slice (some ⟨b, off, none⟩) 3 cap) 2 6, .int .i64 0]) ∧ Fls w' (.slice (some ⟨b, off, none⟩) 3 cap) G2) ∧ Below w.heap.size w w' := by
  have h := often_all 1 2 4 2 4602678819172646912 sv X3 w hT hF (by decide)
  unfold FadeC at h
  obtain ⟨e1, e2, e3, e4⟩ := o_yes e_two
  rw [e1, e2, e3, e4, e_two] at h
  refine h.mono ?_
  rintro e w' ⟨⟨a, len, cap, rfl, hf⟩, hb⟩
  have e5 : fadeN 4602678819172646912 (2 : Int).toNat X3 = G2 := by
    show fadeL 4602678819172646912 (fadeL 4602678819172646912 X3) = G2
    rw [fade1, fade2]
  rw [e5] at hf
  obtain ⟨b, off, cap', e, _, _, _⟩ := hf.cell (by decide)
  cases e
  exact ⟨⟨b, off, cap, rfl, hf⟩, hb⟩
theorem fade_bad {f : Nat} {args : Array Value} {w : World} {c r t k E : Int} {xs : List Nat} {b : Nat} (h : FadeC f args w c xs r t b k) (he : oE c xs r t b k = E) (hn : E ≠ 0) : Calls Tryd.prog f args w fun e w' => (∃ a len cap, e = .returned (.tuple #[fv 0 (.slice a len cap) 0 0, .int .i64 E])) ∧ Below w.heap.size w w' := by
  unfold FadeC at h
  subst he
  obtain ⟨e1, e2, e3, e4⟩ := o_no hn
  rw [e1, e2, e3, e4] at h
  refine h.mono ?_
  rintro e w' ⟨⟨a, len, cap, rfl, _⟩, hb⟩
  exact ⟨⟨a, len, cap, rfl⟩, hb⟩
theorem live_more (sv : Value) (w : World) (hT : Tab w) (hF : Fls w sv X3) : Calls Tryd.prog 9 #[fv 1 sv 2 4, fl 4609434218613702656] w fun e w' => (∃ a len cap, e = .returned (.tuple #[fv 0 (.slice a len cap) 0 0, .int .i64 12])) ∧ Below w.heap.size w w' :=
  fade_bad (factor_all 1 2 4 _ sv X3 w hT hF (by decide)) e_more (by decide)
theorem live_zero (w : World) (hT : Tab w) : Calls Tryd.prog 9 #[fv 0 (.slice none 0 0) 0 0, fl 4607182418800017408] w fun e w' => (∃ a len cap, e = .returned (.tuple #[fv 0 (.slice a len cap) 0 0, .int .i64 1])) ∧ Below w.heap.size w w' :=
  fade_bad (factor_all 0 0 0 _ _ [] w hT (Fls.nil _) (by decide)) e_zero (by decide)
theorem live_many (sv : Value) (w : World) (hT : Tab w) (hF : Fls w sv X3) : Calls Tryd.prog 11 #[fv 1 sv 2 4, fl 4602678819172646912, .int .i64 5000] w fun e w' => (∃ a len cap, e = .returned (.tuple #[fv 0 (.slice a len cap) 0 0, .int .i64 6])) ∧ Below w.heap.size w w' :=
  fade_bad (often_all 1 2 4 5000 _ sv X3 w hT hF (by decide)) e_many (by decide)
theorem live_all (sv lv : Value) (w : World) (hT : Tab w) (hF : Fls w sv X3) (hL : Fls w lv [4602678819172646912, 0]) : Calls Tryd.prog 16 #[fv 1 sv 2 4, lv] w fun e w' =>
    (∃ a len cap, e = .returned (.tuple #[fv 1 (.slice a len cap) 2 5, .int .i64 1, .int .i64 12]) ∧ Fls w' (.slice a len cap) G1) ∧ Below w.heap.size w w' := by
  have h := all_all 1 2 4 sv lv X3 _ w hT hF hL
  unfold AllC at h
  obtain ⟨e1, e2, e3, e4, e5, e6⟩ := a_yes ckX3 r_list
  rw [e1, e2, e3, e4, e5, e6] at h
  exact h
theorem live_may1 (w : World) (hT : Tab w) : Calls Tryd.prog 13 #[fl 4607182418800017408] w fun e w' => e = .returned (.bool true) ∧ w' = w := may_c _ (by decide) w hT
theorem live_may0 (w : World) (hT : Tab w) : Calls Tryd.prog 13 #[fl 0] w fun e w' => e = .returned (.bool false) ∧ w' = w := may_c _ (by decide) w hT
theorem live_same (u v : Value) (w : World) (hX : Fls w u G1) (hY : Fls w v G1) : Calls Tryd.prog 15 #[fv 1 u 2 5, fv 1 v 2 5] w fun e w' => e = .returned (.bool true) ∧ Below w.heap.size w w' := by
  have h := fsame_c 1 2 5 u v G1 G1 w hX hY
  rw [allSame_refl] at h
  exact h
/-- Lists of floats that are built. -/
theorem built_list (w : World) (xs : List Nat) (h : okF xs) (hl : xs.length ≤ 1000) : Fls (w.alloc (.cells (xs.map fl).toArray 25)) (.slice (some ⟨w.heap.size, 0, none⟩) xs.length xs.length) xs := by
  have h1 : RowF (w.alloc (.cells (xs.map fl).toArray 25)) w.heap.size xs := Go.Deep.blk_alloc_new _ _
  exact h1.fls h hl
theorem okL2 : okF [4602678819172646912, 0] := by intro x hx; simp at hx; omega
end Go.Proofs.YtdccjlaneobldaaDoor
