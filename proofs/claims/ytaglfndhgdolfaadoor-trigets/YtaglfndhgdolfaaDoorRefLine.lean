/- levellingref07.Line. -/
import Derived.Maps.AppendAt
import Derived.Test.YtaglfndhgdolfaaDoorRefGet
import Derived.Test.YtaglfndhgdolfaaDoorLinesMath
namespace Go.Proofs.YtaglfndhgdolfaaDoor
open Go.RowKit Go.Shelf

/-- The first k entries of row i, whole. -/
def pre (n : Nat) (xs : List Nat) (r t : Int) (i k : Nat) : List Nat := (List.range k).map fun (j : Nat) => getN n xs r t i (j : Int)
theorem pre_succ (n : Nat) (xs : List Nat) (r t : Int) (i k : Nat) : pre n xs r t i (k + 1) = pre n xs r t i k ++ [getN n xs r t i k] := by simp [pre, List.range_succ]
theorem pre_length (n : Nat) (xs : List Nat) (r t : Int) (i k : Nat) : (pre n xs r t i k).length = k := by simp [pre]
theorem getN_lt {c r t i j : Int} {xs : List Nat} (h : okF xs) : getN c xs r t i j < 18446744073709551616 := by
  unfold getN; split
  · exact okF_getD h _
  · decide
theorem pre_ok {n : Nat} {xs : List Nat} {r t : Int} {i k : Nat} (h : okF xs) : okF (pre n xs r t i k) := by
  intro x hx
  obtain ⟨j, _, rfl⟩ := List.mem_map.1 hx
  exact getN_lt h
theorem pre_line {n i : Nat} {xs : List Nat} {r t : Int} (hck : checkB n xs r t = true) (hi : i ≤ n) : pre n xs r t i (n + 1) = lineN n xs i := by
  obtain ⟨n', hn', h1, h6, hl⟩ := check_len hck
  obtain rfl : n = n' := by omega
  have hlen := line_length h6 hi hl
  apply List.ext_getElem (by rw [pre_length, hlen])
  intro j h3 h4
  have hj : j < n + 1 := by rwa [pre_length] at h3
  have e1 : (pre n xs r t i (n + 1))[j] = getN n xs r t i j := by simp [pre]
  rw [e1]
  by_cases c : i ≤ j
  · rw [getN_yes ⟨⟨by omega, by omega⟩, by omega, by omega, by omega⟩ hck]
    have hp := place_in n h6 i hi
    have h5 := line_at (n := n) (xs := xs) h6 hi (q := place n i + (j - i)) (by omega) (by rw [place_succ]; omega)
    rw [show i + (place n i + (j - i) - place n i) = j by omega] at h5
    rw [← h5, List.getElem?_eq_getElem h4]
    rfl
  · rw [getN_no (fun h => by have := h.2.2.1; omega)]
    have h5 : (lineN n xs i)[j]? = some 0 := by
      unfold lineN
      rw [List.getElem?_append_left (by simp; omega), List.getElem?_replicate, if_pos (by omega)]
    rw [List.getElem?_eq_getElem h4] at h5
    simpa using h5.symm

theorem own_ge {W : World} {base e size n q : Nat} {v : Value} {l : List Value} (h : W.ownsRow base e size v n l) (hq : Value.ownBlock v = some q) : base ≤ q := by
  rcases h.2 with ⟨rfl, _⟩ | ⟨g, cap, cur, rfl, hb, _⟩
  · simp [Value.ownBlock] at hq
  · simp [Value.ownBlock] at hq; omega
theorem ownsRow_below {W W' : World} {base e size n m : Nat} {v : Value} {l : List Value} (h : W.ownsRow base e size v n l) (hb : Below m W W') (hm : W.heap.size ≤ m) : W'.ownsRow base e size v n l := by
  refine ⟨h.1, ?_⟩
  rcases h.2 with h2 | ⟨g, cap, cur, e, h3, hg, h4⟩
  · exact .inl h2
  · exact .inr ⟨g, cap, cur, e, h3, (hb.block g (by have := (Array.getElem?_eq_some_iff.1 hg).1; omega)).trans hg, h4⟩
theorem own_fls {W : World} {base n : Nat} {v : Value} {xs : List Nat} (h : W.ownsRow base 40 1 v n (xs.map fl)) (hok : okF xs) (hl : xs.length = n) (hm : n ≤ 1000) : Fls W v xs := by
  subst hl
  refine ⟨hok, hm, ?_⟩
  rcases h.2 with ⟨rfl, hn⟩ | ⟨g, cap, cur, rfl, _, hg, hn, hc, hs, ht⟩
  · exact .inl ⟨List.eq_nil_of_length_eq_zero hn, none, 0, rfl⟩
  · refine .inr ⟨g, 0, cap, rfl, hn, fun j hj => ?_⟩
    have hj2 : (cur.toList.take (xs.length * 1))[j]? = (xs.map fl)[j]? := by rw [ht]
    have hj3 : cur[j]? = some (fl xs[j]) := by
      rw [List.getElem?_take_of_lt (by omega), List.getElem?_map] at hj2
      simpa [hj] using hj2
    simp only [World.cell?, hg, Nat.zero_add]
    simp [hj3, hj]

set_option maxRecDepth 100000 in
set_option maxHeartbeats 4000000 in
theorem rline_yes (n i : Nat) (r t : Int) (sv : Value) (xs : List Nat) (w : World) (hF : Fls w sv xs) (hck : checkB n xs r t = true) (hin : i ≤ n) :
    Calls Tryd.prog 26 #[fv n sv r t, .int .i64 (i : Int)] w fun e w' => (∃ v, e = .returned v ∧ Fls w' v (lineN n xs i)) ∧ Below w.heap.size w w' := by
  obtain ⟨n', hn', hn1, hn6, hlen⟩ := check_len hck
  obtain rfl : n = n' := by omega
  obtain ⟨a, cap, rfl, hcap⟩ := hF.shape
  have hl := hF.2.1
  obtain ⟨i0, hi, hz0, hz1, hz2⟩ := info_parts Tryd.infoF
  have HCK : Hid (checkB n xs r t = true) := hck
  clear hck hn' hlen
  have hB : Below w.heap.size w (w.alloc (fcells n (.slice a xs.length cap) r t)) := (Below.refl _ w).alloc (Nat.le_refl _) _
  have X := FBox.new w n (.slice a xs.length cap) r t
  have hF1 := hF.below hB (Nat.le_refl _)
  have hd1 : decide ((i : Int) < 0) = false := decide_eq_false (by omega)
  have hd2 : decide ((n : Int) < (i : Int)) = false := decide_eq_false (by omega)
  have hd3 : decide (n < i) = false := decide_eq_false (by omega)
  go_enter Tryd.func26, Tryd.ntmps26
  go_wp2_with fail
  refine (rcheck_c n r t _ xs _ hF1).mono ?_
  rw [HCK.out]
  rintro e w2 ⟨rfl, hb2⟩
  have X2 := X.below hb2 (Nat.le_refl _)
  have B2 := hB.trans (hb2.mono hB.size)
  have x0 := X2.c0
  clear hb2 X hB hF1
  go_wp2_with fail
  go_loopw [5, 6] (fun v j wr => ∃ k : Nat, k ≤ n + 1 ∧ j = .int .i64 (k : Int) ∧ Hid (wr.ownsRow (w.heap.size + 1) 40 1 v k ((pre n xs r t i k).map fl)) ∧ FBox wr w.heap.size n (.slice a xs.length cap) r t ∧ Below w.heap.size w wr) (fun _ j _ => n + 1 - (intOf j).toNat)
  case atStart => exact ⟨0, by omega, by simp, by show World.ownsRow _ _ _ _ _ _ _; simp [World.ownsRow, pre], X2, B2⟩
  case round =>
    obtain ⟨k, hk, rfl, HO, X3, B3⟩ := hrel
    clear x0 X2 B2
    have x0 := X3.c0
    by_cases hlt : k ≤ n
    · have x1 := X3.c1
      have x2 := X3.c2
      have x3 := X3.c3
      obtain ⟨G, HG⟩ : ∃ G, Hid (getN n xs r t i k = G) := ⟨_, rfl⟩
      have hG : G < 18446744073709551616 := by rw [← HG.out]; exact getN_lt hF.1
      go_wp2_with fail
      refine (rget_c n r t i k _ xs _ (hF.below B3 (Nat.le_refl _))).mono ?_
      rw [HG.out]
      rintro e w3 ⟨rfl, hb⟩
      have hrow := ownsRow_below HO.out hb (Nat.le_refl _)
      have B4 := B3.trans (hb.mono B3.size)
      have X4 := X3.below hb (Nat.le_refl _)
      have hown : ∀ q, Value.ownBlock u5 = some q → w.heap.size + 1 ≤ q := fun q hq => own_ge HO.out hq
      have hXl := X4.lt
      have hln := pre_length n xs r t i k
      clear hb x0 x1 x2 x3
      go_wp2_with (at_builtin; refine wpList_append_own _ rfl _ _ 22 rfl (w.heap.size + 1) 40 i0 (.float .f64 0) 1 8 Tryd.underlying22 hi hz0 hz1 hz2 rfl (by decide) u5 _ _ rfl (hrow.alloc _) ⟨w3.heap.size, 0, none⟩ 1 1 [fl G] rfl rfl (cell_one_new _ _ _) (by simp [Value.oneCell']) (by unfold maxLen; omega) (by omega) (by simp; omega) ?_; intro v' w4 hown' hgrow _)
      have X5 : FBox w4 w.heap.size n (.slice a xs.length cap) r t := (hgrow.block w.heap.size (by simp; omega) (fun e => by have := hown _ e.symm; omega)).trans (X4.below ((Below.refl _ w3).alloc (Nat.le_refl _) _) (Nat.le_refl _))
      have B5 : Below w.heap.size w w4 := Below.grown (B4.alloc B4.size _) hgrow (by have := B4.size; simp; omega) (fun q e => by have := hown q e; omega)
      have HO5 : Hid (w4.ownsRow (w.heap.size + 1) 40 1 v' (k + 1) ((pre n xs r t i (k + 1)).map fl)) := by
        show World.ownsRow _ _ _ _ _ _ _
        rw [pre_succ, List.map_append, HG.out]
        exact hown'
      go_roundw
      case rel => exact ⟨k + 1, by omega, by go_num, HO5, X5, B5⟩
      case measure => simp [intOf]; omega
    · obtain rfl : k = n + 1 := by omega
      go_wp2_with fail
      go_ret
      refine ⟨⟨_, rfl, ?_⟩, B3⟩
      have h := own_fls HO.out (pre_ok hF.1) (pre_length ..) (by omega)
      rwa [pre_line HCK.out hin] at h
end Go.Proofs.YtaglfndhgdolfaaDoor
