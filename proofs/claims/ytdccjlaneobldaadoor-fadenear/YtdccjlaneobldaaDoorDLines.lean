/- levellingref08.Lines. -/
import Derived.BigQuiet
import Derived.Deep.RegionHeld3
import Derived.Test.YtdccjlaneobldaaDoorDRows
import Derived.Test.YtdccjlaneobldaaDoorGLine
namespace Go.Proofs.YtdccjlaneobldaaDoor.N
open Go.RowKit Go.Shelf Rnd

theorem infoR : (Tryd.prog.info? 81).map (fun i => (i.zero, i.size, i.bytes)) = some (some (rwv (.slice none 0 0) 0), 2, 32) := by kernel_rfl

/-- The cells of rows: where each one's entries lie, and its last one. -/
def rlc (n : Nat) : List (Nat × Nat × Nat) → List Value
  | [] => []
  | x :: l => .slice (some ⟨x.1, 0, none⟩) n x.2.1 :: fl x.2.2 :: rlc n l
theorem rlc_append (n : Nat) (l : List (Nat × Nat × Nat)) (x : Nat × Nat × Nat) : rlc n (l ++ [x]) = rlc n l ++ [.slice (some ⟨x.1, 0, none⟩) n x.2.1, fl x.2.2] := by
  induction l with
  | nil => rfl
  | cons y l ih => simp only [List.cons_append, rlc, ih]
theorem rlc_at (n : Nat) : ∀ (l : List (Nat × Nat × Nat)) (j : Nat) (x : Nat × Nat × Nat), l[j]? = some x → (rlc n l)[2 * j]? = some (.slice (some ⟨x.1, 0, none⟩) n x.2.1) ∧ (rlc n l)[2 * j + 1]? = some (fl x.2.2)
  | [], j, x, h => by simp at h
  | y :: l, 0, x, h => by
    simp only [List.getElem?_cons_zero, Option.some.injEq] at h
    subst h
    exact ⟨rfl, rfl⟩
  | y :: l, j + 1, x, h => by
    rw [List.getElem?_cons_succ] at h
    have k := rlc_at n l j x h
    rw [show 2 * (j + 1) = 2 * j + 1 + 1 by omega]
    exact k
theorem fls_first {W : World} {g n cap : Nat} {xs : List Nat} {i : Nat} (h : Fls W (.slice (some ⟨g, 0, none⟩) (n + 1) cap) (lst n xs i (n + 1))) : Fls W (.slice (some ⟨g, 0, none⟩) n cap) (lst n xs i n) := by
  obtain ⟨h1, h2, h3⟩ := h
  refine ⟨fun x hx => h1 x (by rw [lst_succ]; exact List.mem_append_left _ hx), by rw [lst_length] at h2 ⊢; omega, ?_⟩
  rcases h3 with ⟨e, _⟩ | ⟨b, off, cp, e, hc, hj⟩
  · have := congrArg List.length e
    rw [lst_length] at this
    simp at this
  · injection e with e1 e2 e3
    injection e1 with e1
    injection e1 with e4 e5
    subst e4 e5 e3
    refine .inr ⟨g, 0, cap, by rw [lst_length], by rw [lst_length] at hc ⊢; omega, fun j hl => ?_⟩
    rw [lst_length] at hl
    have hx := hj j (by rw [lst_length]; omega)
    have e6 : (lst n xs i (n + 1))[j]?.getD 0 = (lst n xs i n)[j]?.getD 0 := by rw [lst_at (by omega), lst_at hl]
    first
      | exact hx.trans (by rw [e6])
      | simpa [lst, hl, Nat.lt_succ_of_lt hl] using hx
theorem fls_grown {W W' : World} {g n cap : Nat} {ys : List Nat} {row : Option Nat} (h : Fls W (.slice (some ⟨g, 0, none⟩) n cap) ys) (hg : W.grownBy W' row) (hl : g < W.heap.size) (hn : some g ≠ row) : Fls W' (.slice (some ⟨g, 0, none⟩) n cap) ys := by
  obtain ⟨h1, h2, h3⟩ := h
  refine ⟨h1, h2, ?_⟩
  rcases h3 with h3 | ⟨b, off, cp, e, hc, hj⟩
  · exact .inl h3
  · refine .inr ⟨b, off, cp, e, hc, fun j hl2 => ?_⟩
    injection e with e1 e2 e3
    injection e1 with e1
    injection e1 with e4 e5
    subst e4
    rw [World.cell?_of_block (w := W) (hg.block g hl hn)]
    exact hj j hl2

/-- Rows that a call makes, one behind the other. -/
def OwnR (W : World) (base : Nat) (v : Value) (k n : Nat) (xs : List Nat) : Prop :=
  ∃ l : List (Nat × Nat × Nat), l.length = k ∧ W.ownsRow base 81 2 v k (rlc n l) ∧ ∀ r x, l[r]? = some x → x.2.2 = ent n xs r n ∧ Fls W (.slice (some ⟨x.1, 0, none⟩) n x.2.1) (lst n xs r n) ∧ x.1 < W.heap.size ∧ some x.1 ≠ v.ownBlock
theorem OwnR.nil (W : World) (base n : Nat) (xs : List Nat) : OwnR W base (.slice none 0 0) 0 n xs :=
  ⟨[], rfl, World.ownsRow_nil _ _ _ _, fun r x h => by simp at h⟩
theorem OwnR.below {W W' : World} {base k n : Nat} {v : Value} {xs : List Nat} (h : OwnR W base v k n xs) (hb : Below W.heap.size W W') : OwnR W' base v k n xs := by
  obtain ⟨l, h1, h2, h3⟩ := h
  refine ⟨l, h1, ownsRow_below h2 hb (Nat.le_refl _), fun r x hx => ?_⟩
  obtain ⟨a, b, c, d⟩ := h3 r x hx
  exact ⟨a, b.below hb (Nat.le_refl _), Nat.lt_of_lt_of_le c hb.size, d⟩
theorem own_push {W W' : World} {base k n : Nat} {v : Value} {xs : List Nat} {l : List (Nat × Nat × Nat)} {g c gg cap H : Nat} (hl : l.length = k)
    (h3 : ∀ r x, l[r]? = some x → x.2.2 = ent n xs r n ∧ Fls W (.slice (some ⟨x.1, 0, none⟩) n x.2.1) (lst n xs r n) ∧ x.1 < W.heap.size ∧ some x.1 ≠ v.ownBlock)
    (hf : Fls W (.slice (some ⟨g, 0, none⟩) n c) (lst n xs k n)) (hgl : g < W.heap.size) (hgn : some g ≠ v.ownBlock) (hO : W'.ownsRow base 81 2 (.slice (some ⟨gg, 0, none⟩) (k + 1) cap) (k + 1) (rlc n l ++ [.slice (some ⟨g, 0, none⟩) n c, fl (ent n xs k n)]))
    (hg : W.grownBy W' v.ownBlock) (hat : v.ownBlock = some gg ∨ gg = H) (hH : W.heap.size ≤ H) : OwnR W' base (.slice (some ⟨gg, 0, none⟩) (k + 1) cap) (k + 1) n xs := by
  have hne : ∀ q, q < W.heap.size → some q ≠ v.ownBlock → some q ≠ Value.ownBlock (.slice (some ⟨gg, 0, none⟩) (k + 1) cap) := by
    intro q hq hn e
    simp only [Value.ownBlock, Option.some.injEq] at e
    subst e
    rcases hat with h | h
    · exact hn h.symm
    · omega
  refine ⟨l ++ [(g, c, ent n xs k n)], by simp [hl], by rw [rlc_append]; exact hO, fun r x hx => ?_⟩
  rcases Nat.lt_or_ge r l.length with hr | hr
  · rw [List.getElem?_append_left hr] at hx
    obtain ⟨a, b, c', d⟩ := h3 r x hx
    exact ⟨a, fls_grown b hg c' d, Nat.lt_of_lt_of_le c' hg.size, hne _ c' d⟩
  · rw [List.getElem?_append_right hr] at hx
    have hj0 : r - l.length = 0 := by
      rcases Nat.eq_zero_or_pos (r - l.length) with h | h
      · exact h
      · rw [List.getElem?_eq_none (by simp; omega)] at hx; cases hx
    rw [hj0] at hx
    simp only [List.getElem?_cons_zero, Option.some.injEq] at hx
    subst hx
    have : r = k := by omega
    subst this
    exact ⟨rfl, fls_grown hf hg hgl hgn, Nat.lt_of_lt_of_le hgl hg.size, hne _ hgl hgn⟩
theorem OwnR.rws {W : World} {base k n : Nat} {v : Value} {xs : List Nat} (h : OwnR W base v k n xs) (hk : 0 < k) : Rws W v k n (ent n xs) := by
  obtain ⟨l, h1, h2, h3⟩ := h
  rcases h2.2 with ⟨_, h0⟩ | ⟨q, cap, cur, rfl, hb, hg, hn, hc, hs, ht⟩
  · omega
  · refine ⟨q, cap, rfl, hn, (Array.getElem?_eq_some_iff.1 hg).1, fun r hr => ?_⟩
    have hx : l[r]? = some l[r] := List.getElem?_eq_getElem (by omega)
    obtain ⟨c0, c1⟩ := rlc_at n l r _ hx
    rw [Nat.mul_comm 2 r] at c0 c1
    have key : ∀ p y, p < k * 2 → (rlc n l)[p]? = some y → W.cell? ⟨q, p, none⟩ = some y := by
      intro p y hp hy
      rw [← ht, List.getElem?_take_of_lt hp, Array.getElem?_toList] at hy
      simp only [World.cell?, hg]
      simp [hy]
    obtain ⟨e1, e2, _⟩ := h3 r _ hx
    rw [e1] at c1
    exact ⟨_, _, key _ _ (by omega) c0, key _ _ (by omega) c1, e2, lst_length .., fun j hj => lst_at hj⟩

set_option maxRecDepth 100000 in
set_option maxHeartbeats 8000000 in
theorem rlines_c (n : Nat) (r t : Int) (sv : Value) (xs : List Nat) (w : World) (hF : Fls w sv xs) (hck : checkB n xs r t = true) :
    Calls Tryd.prog 37 #[fv n sv r t] w fun e w' => (∃ v, e = .returned v ∧ Rws w' v (n + 1) n (ent n xs)) ∧ Below w.heap.size w w' := by
  obtain ⟨n', hn', hn1, hn6, hlen⟩ := check_len hck
  obtain rfl : n = n' := by omega
  obtain ⟨a, cap, rfl, hcap⟩ := hF.shape
  have hl := hF.2.1
  have HCK : Hid (checkB n xs r t = true) := hck
  clear hck hn' hlen
  have hB : Below w.heap.size w (w.alloc (fcells n (.slice a xs.length cap) r t)) := (Below.refl _ w).alloc (Nat.le_refl _) _
  have X := FBox.new w n (.slice a xs.length cap) r t
  go_enter Tryd.func37, Tryd.ntmps37
  go_wp2_with fail
  obtain ⟨i0, hi, hz0, hz1, hz2⟩ := info_parts infoR
  go_loopw [3, 4] (fun v j wr => ∃ k : Nat, k ≤ n + 1 ∧ j = .int .i64 (k : Int) ∧ OwnR wr (w.heap.size + 1) v k n xs ∧ FBox wr w.heap.size n (.slice a xs.length cap) r t ∧ Below w.heap.size w wr) (fun _ j _ => n + 1 - (intOf j).toNat)
  case atStart => exact ⟨0, by omega, by simp, OwnR.nil _ _ _ _, X, hB⟩
  case round =>
    obtain ⟨k, hk, rfl, O, X2, B2⟩ := hrel
    clear X hB
    have x0 := X2.c0
    by_cases hlt : k ≤ n
    · have x1 := X2.c1
      have x2 := X2.c2
      have x3 := X2.c3
      have K := rline_yes n k r t _ xs wr (hF.below B2 (Nat.le_refl _)) HCK.out hlt
      go_wp2_with fail
      refine K.mono ?_
      rintro e w3 ⟨⟨g, c, rfl, hge, hgl, hnc, F3⟩, hb3⟩
      have O3 := O.below hb3
      have X3 := X2.below hb3 (Nat.le_refl _)
      have B3 := B2.trans (hb3.mono B2.size)
      obtain ⟨l, hl1, hl2, hl3⟩ := O3
      have hown : ∀ q, Value.ownBlock u3 = some q → w.heap.size + 1 ≤ q := fun q hq => own_ge hl2 hq
      have hlt2 : ∀ q, Value.ownBlock u3 = some q → q < wr.heap.size := by
        intro q hq
        obtain ⟨l', _, hl2', _⟩ := O
        rcases hl2'.2 with ⟨rfl, _⟩ | ⟨q', cap', cur, rfl, hb, hg, _⟩
        · cases hq
        · simp only [Value.ownBlock, Option.some.injEq] at hq
          subst hq
          exact (Array.getElem?_eq_some_iff.1 hg).1
      have hgn : some g ≠ Value.ownBlock u3 := fun e => by have := hlt2 g e.symm; omega
      have hcn : w3.cell? ⟨g, n, none⟩ = some (fl (ent n xs k n)) := by
        obtain ⟨b, off, cp, e, _, _, hc⟩ := F3.cell (by rw [lst_length]; omega)
        rw [lst_length] at e hc
        injection e with e1 e2 e3
        injection e1 with e1
        injection e1 with e4 e5
        subst e4 e5
        have h := hc n (by omega)
        rw [lst_at (by omega), Nat.zero_add] at h
        exact h
      have F4 := fls_first F3
      clear x0 x1 x2 x3 K hb3 F3 O X2 B2
      obtain ⟨y, HY⟩ : ∃ y, Hid (ent n xs k n = y) := ⟨_, rfl⟩
      rw [HY.out] at hcn
      have bE : Below w3.heap.size w3 (w3.drew.alloc (.cells #[.slice (some ⟨g, 0, none⟩) n c, fl y] 81)) := ((Below.refl _ w3).drew).alloc (Nat.le_refl _) _
      have post : ∀ gg cap5 w5, World.ownsRow w5 (w.heap.size + 1) 81 2 (.slice (some ⟨gg, 0, none⟩) (k + 1) cap5) (k + 1) (rlc n l ++ [.slice (some ⟨g, 0, none⟩) n c, fl y]) → ((w3.drew.alloc (.cells #[.slice (some ⟨g, 0, none⟩) n c, fl y] 81))).grownBy w5 (Value.ownBlock u3) → (Value.ownBlock u3 = some gg ∨ gg = w3.heap.size + 1) →
          OwnR w5 (w.heap.size + 1) (.slice (some ⟨gg, 0, none⟩) (k + 1) cap5) (k + 1) n xs ∧ FBox w5 w.heap.size n (.slice a xs.length cap) r t ∧ Below w.heap.size w w5 ∧ w5.cell? ⟨g, n, none⟩ = some (fl y) := by
        intro gg cap5 w5 ho hg hat
        have hsz : (w3.drew.alloc (.cells #[.slice (some ⟨g, 0, none⟩) n c, fl y] 81)).heap.size = w3.heap.size + 1 := by simp
        have s3 := B3.size
        refine ⟨own_push (W := (w3.drew.alloc (.cells #[.slice (some ⟨g, 0, none⟩) n c, fl y] 81))) (v := u3) hl1 (fun r x hx => ?_) (F4.below bE (Nat.le_refl _)) (by omega) hgn (by rw [HY.out]; exact ho) hg hat (by omega), ?_, ?_, ?_⟩
        · obtain ⟨q1, q2, q3, q4⟩ := hl3 r x hx
          exact ⟨q1, q2.below bE (Nat.le_refl _), by omega, q4⟩
        · exact (hg.block w.heap.size (by have := X3.lt; omega) (fun e => by have := hown _ e.symm; omega)).trans (X3.below bE (Nat.le_refl _))
        · exact Below.grown (B3.trans (bE.mono s3)) hg (by omega) (fun q e => by have := hown q e; omega)
        · rw [World.cell?_of_block (w := (w3.drew.alloc (.cells #[.slice (some ⟨g, 0, none⟩) n c, fl y] 81))) (hg.block g (by omega) hgn)]
          exact (bE.cell (p := ⟨g, n, none⟩) hgl).trans hcn
      have y0 := X3.c0
      have mk : ∀ w', Below w3.heap.size w3 w' → (w'.cell? ⟨w.heap.size, 0, none⟩ = some (.int .i64 (n : Int)) ∧ w'.cell? ⟨g, n, none⟩ = some (fl y)) := fun w' hw => ⟨(X3.below hw (Nat.le_refl _)).c0, (hw.cell (p := ⟨g, n, none⟩) hgl).trans hcn⟩
      have b0 : Below w3.heap.size w3 w3 := Below.refl _ _
      have bd : Below w3.heap.size w3 w3.drew := b0.drew
      have E3 : (w3.drew.alloc (.cells #[.slice (some ⟨g, 0, none⟩) n c, fl y] 81)).heap[w3.heap.size]? = some (.cells #[.slice (some ⟨g, 0, none⟩) n c, fl y] 81 (0, 0)) := heap_alloc_new w3.drew _
      have hl4 : World.ownsRow (w3.drew.alloc (.cells #[.slice (some ⟨g, 0, none⟩) n c, fl y] 81)) (w.heap.size + 1) 81 2 u3 k (rlc n l) := ownsRow_below hl2 bE (Nat.le_refl _)
      have NB : w.heap.size + 1 ≤ (w3.drew.alloc (.cells #[.slice (some ⟨g, 0, none⟩) n c, fl y] 81)).heap.size := by have := X3.lt; have := bE.size; omega
      have NH : (w3.drew.alloc (.cells #[.slice (some ⟨g, 0, none⟩) n c, fl y] 81)).heap.size = w3.heap.size + 1 := by simp
      have hone : ∀ u ∈ [Value.slice (some ⟨g, 0, none⟩) n c, fl y], u.oneCell' = true := by
        intro u hu
        simp only [List.mem_cons, List.not_mem_nil, or_false] at hu
        rcases hu with rfl | rfl <;> rfl
      have hnews := World.news_of_block E3
      have hk9 : k + 1 ≤ maxLen := by unfold maxLen; omega
      have hk8 : (k + 1) * 32 ≤ 140737488355328 := by omega
      have hn0 : (0 : Int) ≤ (n : Int) := Int.natCast_nonneg _
      have hn1' : (n : Int) < (n : Int) + 1 := by omega
      have hcn' : (n : Int) ≤ (c : Int) := by omega
      go_wp2_with fail
      go_region_held3 (fun w' => w'.cell? ⟨w.heap.size, 0, none⟩ = some (.int .i64 (n : Int)) ∧ w'.cell? ⟨g, n, none⟩ = some (fl y)) (first | exact mk _ (by assumption) | exact ⟨pf0, pc⟩)
        ((first | (refine step_append_lies _ (by rfl) _ _ _ (by rfl) (w.heap.size + 1) 81 i0 (rwv (.slice none 0 0) 0) 2 32 Tryd.underlying55 hi hz0 hz1 hz2 rfl (by decide) u3 k (rlc n l) (by rfl) hl4 ⟨w3.heap.size, 0, none⟩ 1 1 [.slice (some ⟨g, 0, none⟩) n c, fl y] (by rfl) (by rfl) hnews hone (by decide) hk9 hk8 NB (w3.heap.size + 1) NH ?_; intro gg cap5 w5 hown5 hgrow5 hat5 hlt5; obtain ⟨po, pf, pb, pc⟩ := post gg cap5 w5 hown5 hgrow5 hat5; have pf0 := pf.c0)))
      all_goals
        go_wp2_with fail
        go_roundw
        case rel => exact ⟨k + 1, by omega, by go_num, po, pf, pb⟩
        case measure => simp [intOf]; omega
    · obtain rfl : k = n + 1 := by omega
      go_wp2_with fail
      go_ret
      exact ⟨⟨_, rfl, O.rws (by omega)⟩, B2⟩
end Go.Proofs.YtdccjlaneobldaaDoor.N
