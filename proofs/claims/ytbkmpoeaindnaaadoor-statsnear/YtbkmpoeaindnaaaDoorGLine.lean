/- levellingref07.Get, .Line. -/
import Derived.Maps.AppendAt
import Derived.Test.YtbkmpoeaindnaaaDoorRefCheck
import Derived.Test.YtbkmpoeaindnaaaDoorOwn
import Derived.Test.YtbkmpoeaindnaaaDoorFlo
namespace Go.Proofs.YtbkmpoeaindnaaaDoor.N
open Go.RowKit Go.Shelf

set_option maxRecDepth 100000 in
set_option maxHeartbeats 2000000 in
theorem rget_c (c r t i j : Int) (sv : Value) (xs : List Nat) (w : World) (hF : Fls w sv xs) :
    Calls Tryd.prog 26 #[fv c sv r t, .int .i64 i, .int .i64 j] w fun e w' => e = .returned (fl (getN c xs r t i j)) ∧ Below w.heap.size w w' := by
  obtain ⟨a, cap, rfl, hcap⟩ := hF.shape
  have hl := hF.2.1
  have hB : Below w.heap.size w (w.alloc (fcells c (.slice a xs.length cap) r t)) := (Below.refl _ w).alloc (Nat.le_refl _) _
  have X := FBox.new w c (.slice a xs.length cap) r t
  have hF1 := hF.below hB (Nat.le_refl _)
  by_cases hin : inTri c i j
  · obtain ⟨n, ni, nj, rfl, rfl, rfl, hn1, hn6, hij, hjn⟩ := inTri_nat hin
    obtain ⟨P, HP⟩ : ∃ P, Hid (place n ni + (nj - ni) = P) := ⟨_, rfl⟩
    go_enter Tryd.func26, Tryd.ntmps26
    go_wp2_with fail
    refine (rat_yes n ni nj _ hn1 hn6 hij hjn).mono ?_
    rw [HP.out]
    rintro e w1 ⟨rfl, rfl⟩
    go_wp2_with fail
    refine (rcheck_c n r t _ xs _ hF1).mono ?_
    rintro e w2 ⟨rfl, hb2⟩
    have X2 := X.below hb2 (Nat.le_refl _)
    have e1 := X2.c1
    have hF3 := hF1.below hb2 (Nat.le_refl _)
    have hB2 := hB.trans (hb2.mono hB.size)
    clear hF1 hb2 X X2
    cases hck : checkB n xs r t with
    | false =>
      have HG : Hid (getN n xs r t ni nj = 0) := by show _ = _; unfold getN; rw [if_neg (by rw [hck]; simp)]
      go_wp2_with fail
      go_ret
      exact ⟨ret_fl HG.out.symm, hB2⟩
    | true =>
      have HG : Hid (getN n xs r t ni nj = xs[P]?.getD 0) := by show _ = _; unfold getN; rw [if_pos ⟨hin, hck⟩]; simp [HP.out]
      obtain ⟨n', hn', _, _, hlen⟩ := check_len hck
      obtain rfl : n = n' := by omega
      have hPl : P < xs.length := by have := place_in n hn6 ni (by omega); have := HP.out; omega
      obtain ⟨b, off, cap', e, hb, hc', hcs⟩ := hF3.cell (by omega)
      cases e
      have hcx := hcs P hPl
      obtain ⟨x, hx⟩ : ∃ x, xs[P]?.getD 0 = x := ⟨_, rfl⟩
      rw [hx] at hcx HG
      clear hcs hx hlen hn'
      go_wp2_with fail
      go_ret
      exact ⟨ret_fl HG.out.symm, hB2⟩
  · have HG : Hid (getN c xs r t i j = 0) := by show _ = _; unfold getN; rw [if_neg (fun h => hin h.1)]
    obtain ⟨ck, HCK⟩ : ∃ ck, Hid (checkB c xs r t = ck) := ⟨_, rfl⟩
    go_enter Tryd.func26, Tryd.ntmps26
    go_wp2_with fail
    refine (rat_no c i j _ hin).mono ?_
    rintro e w1 ⟨rfl, rfl⟩
    go_wp2_with fail
    refine (rcheck_c c r t _ xs _ hF1).mono ?_
    rw [HCK.out]
    rintro e w2 ⟨rfl, hb2⟩
    cases ck with
    | false =>
      go_wp2_with fail
      go_ret
      exact ⟨ret_fl HG.out.symm, hB.trans (hb2.mono hB.size)⟩
    | true =>
      go_wp2_with fail
      go_ret
      exact ⟨ret_fl HG.out.symm, hB.trans (hb2.mono hB.size)⟩

/-- What stands at row i, column j of a triangle: 0 below the diagonal. -/
def ent (n : Nat) (xs : List Nat) (i j : Nat) : Nat := if i ≤ j then xs[place n i + (j - i)]?.getD 0 else 0
theorem getN_ent {n i j : Nat} {xs : List Nat} {r t : Int} (hck : checkB n xs r t = true) (hj : j ≤ n) : getN n xs r t i j = ent n xs i j := by
  obtain ⟨n', hn', h1, h6, hl⟩ := check_len hck
  obtain rfl : n = n' := by omega
  unfold getN ent
  by_cases c : i ≤ j
  · rw [if_pos ⟨⟨⟨by omega, by omega⟩, by omega, by omega, by omega⟩, hck⟩, if_pos c]
    simp only [Int.toNat_natCast]
  · rw [if_neg (fun h => by have := h.1.2.2.1; omega), if_neg c]
theorem ent_lt {n i j : Nat} {xs : List Nat} (h : okF xs) : ent n xs i j < 18446744073709551616 := by
  unfold ent; split
  · exact okF_getD h _
  · decide
/-- The first k entries of row i, whole. -/
def lst (n : Nat) (xs : List Nat) (i k : Nat) : List Nat := (List.range k).map fun (j : Nat) => ent n xs i j
theorem lst_succ (n : Nat) (xs : List Nat) (i k : Nat) : lst n xs i (k + 1) = lst n xs i k ++ [ent n xs i k] := by simp [lst, List.range_succ]
theorem lst_length (n : Nat) (xs : List Nat) (i k : Nat) : (lst n xs i k).length = k := by simp [lst]
theorem lst_ok {n : Nat} {xs : List Nat} {i k : Nat} (h : okF xs) : okF (lst n xs i k) := by
  intro x hx
  obtain ⟨j, _, rfl⟩ := List.mem_map.1 hx
  exact ent_lt h
theorem lst_at {n : Nat} {xs : List Nat} {i k j : Nat} (h : j < k) : (lst n xs i k)[j]?.getD 0 = ent n xs i j := by simp [lst, h]

theorem own_ge {W : World} {base e size n q : Nat} {v : Value} {l : List Value} (h : W.ownsRow base e size v n l) (hq : Value.ownBlock v = some q) : base ≤ q := by
  rcases h.2 with ⟨rfl, _⟩ | ⟨g, cap, cur, rfl, hb, _⟩
  · simp [Value.ownBlock] at hq
  · simp [Value.ownBlock] at hq; omega
theorem ownsRow_below {W W' : World} {base e size n m : Nat} {v : Value} {l : List Value} (h : W.ownsRow base e size v n l) (hb : Below m W W') (hm : W.heap.size ≤ m) : W'.ownsRow base e size v n l := by
  refine ⟨h.1, ?_⟩
  rcases h.2 with h2 | ⟨g, cap, cur, e, h3, hg, h4⟩
  · exact .inl h2
  · exact .inr ⟨g, cap, cur, e, h3, (hb.block g (by have := (Array.getElem?_eq_some_iff.1 hg).1; omega)).trans hg, h4⟩
theorem own_fls {W : World} {base n : Nat} {v : Value} {xs : List Nat} (h : W.ownsRow base 26 1 v n (xs.map fl)) (hok : okF xs) (hl : xs.length = n) (hm : n ≤ 1000) : Fls W v xs := by
  subst hl
  refine ⟨hok, hm, ?_⟩
  rcases h.2 with ⟨rfl, hn⟩ | ⟨g, cap, cur, rfl, _, hg, hn, hc, hs, ht⟩
  · exact .inl ⟨List.eq_nil_of_length_eq_zero hn, none, 0, rfl⟩
  · refine .inr ⟨g, 0, cap, rfl, hn, fun j hj => ?_⟩
    have hj2 : (cur.toList.take (xs.length * 1))[j]? = (xs.map fl)[j]? := by rw [ht]
    have hj3 : cur[j]? = some (fl xs[j]) := by
      rw [List.getElem?_take_of_lt (by omega), List.getElem?_map] at hj2
      simpa [hj] using hj2
    simp only [World.cell?, hg, Nat.zero_add]
    simp [hj3, hj]

set_option maxRecDepth 100000 in
set_option maxHeartbeats 4000000 in
theorem rline_yes (n i : Nat) (r t : Int) (sv : Value) (xs : List Nat) (w : World) (hF : Fls w sv xs) (hck : checkB n xs r t = true) (hin : i ≤ n) :
    Calls Tryd.prog 69 #[fv n sv r t, .int .i64 (i : Int)] w fun e w' => (∃ g cap, e = .returned (.slice (some ⟨g, 0, none⟩) (n + 1) cap) ∧ w.heap.size ≤ g ∧ g < w'.heap.size ∧ n + 1 ≤ cap ∧ Fls w' (.slice (some ⟨g, 0, none⟩) (n + 1) cap) (lst n xs i (n + 1))) ∧ Below w.heap.size w w' := by
  obtain ⟨n', hn', hn1, hn6, hlen⟩ := check_len hck
  obtain rfl : n = n' := by omega
  obtain ⟨a, cap, rfl, hcap⟩ := hF.shape
  have hl := hF.2.1
  obtain ⟨i0, hi, hz0, hz1, hz2⟩ := info_parts Tryd.infoF
  have HCK : Hid (checkB n xs r t = true) := hck
  clear hck hn' hlen
  have hB : Below w.heap.size w (w.alloc (fcells n (.slice a xs.length cap) r t)) := (Below.refl _ w).alloc (Nat.le_refl _) _
  have X := FBox.new w n (.slice a xs.length cap) r t
  have hF1 := hF.below hB (Nat.le_refl _)
  have hd1 : decide ((i : Int) < 0) = false := decide_eq_false (by omega)
  have hd2 : decide ((n : Int) < (i : Int)) = false := decide_eq_false (by omega)
  have hd3 : decide (n < i) = false := decide_eq_false (by omega)
  go_enter Tryd.func69, Tryd.ntmps69
  go_wp2_with fail
  refine (rcheck_c n r t _ xs _ hF1).mono ?_
  rw [HCK.out]
  rintro e w2 ⟨rfl, hb2⟩
  have X2 := X.below hb2 (Nat.le_refl _)
  have B2 := hB.trans (hb2.mono hB.size)
  have x0 := X2.c0
  clear hb2 X hB hF1
  go_wp2_with fail
  go_loopw [5, 6] (fun v j wr => ∃ k : Nat, k ≤ n + 1 ∧ j = .int .i64 (k : Int) ∧ Hid (wr.ownsRow (w.heap.size + 1) 26 1 v k ((lst n xs i k).map fl)) ∧ FBox wr w.heap.size n (.slice a xs.length cap) r t ∧ Below w.heap.size w wr) (fun _ j _ => n + 1 - (intOf j).toNat)
  case atStart => exact ⟨0, by omega, by simp, by show World.ownsRow _ _ _ _ _ _ _; simp [World.ownsRow, lst], X2, B2⟩
  case round =>
    obtain ⟨k, hk, rfl, HO, X3, B3⟩ := hrel
    clear x0 X2 B2
    have x0 := X3.c0
    by_cases hlt : k ≤ n
    · have x1 := X3.c1
      have x2 := X3.c2
      have x3 := X3.c3
      obtain ⟨G, HG⟩ : ∃ G, Hid (ent n xs i k = G) := ⟨_, rfl⟩
      have hG : G < 18446744073709551616 := by rw [← HG.out]; exact ent_lt hF.1
      go_wp2_with fail
      refine (rget_c n r t i k _ xs _ (hF.below B3 (Nat.le_refl _))).mono ?_
      rw [getN_ent HCK.out hlt, HG.out]
      rintro e w3 ⟨rfl, hb⟩
      have hrow := ownsRow_below HO.out hb (Nat.le_refl _)
      have B4 := B3.trans (hb.mono B3.size)
      have X4 := X3.below hb (Nat.le_refl _)
      have hown : ∀ q, Value.ownBlock u5 = some q → w.heap.size + 1 ≤ q := fun q hq => own_ge HO.out hq
      have hXl := X4.lt
      have hln := lst_length n xs i k
      clear hb x0 x1 x2 x3
      go_wp2_with (at_builtin; refine wpList_append_own _ rfl _ _ 22 rfl (w.heap.size + 1) 26 i0 (.float .f64 0) 1 8 Tryd.underlying22 hi hz0 hz1 hz2 rfl (by decide) u5 _ _ rfl (hrow.alloc _) ⟨w3.heap.size, 0, none⟩ 1 1 [fl G] rfl rfl (cell_one_new _ _ _) (by simp [Value.oneCell']) (by unfold maxLen; omega) (by omega) (by simp; omega) ?_; intro v' w4 hown' hgrow _)
      have X5 : FBox w4 w.heap.size n (.slice a xs.length cap) r t := (hgrow.block w.heap.size (by simp; omega) (fun e => by have := hown _ e.symm; omega)).trans (X4.below ((Below.refl _ w3).alloc (Nat.le_refl _) _) (Nat.le_refl _))
      have B5 : Below w.heap.size w w4 := Below.grown (B4.alloc B4.size _) hgrow (by have := B4.size; simp; omega) (fun q e => by have := hown q e; omega)
      have HO5 : Hid (w4.ownsRow (w.heap.size + 1) 26 1 v' (k + 1) ((lst n xs i (k + 1)).map fl)) := by
        show World.ownsRow _ _ _ _ _ _ _
        rw [lst_succ, List.map_append, HG.out]
        exact hown'
      go_roundw
      case rel => exact ⟨k + 1, by omega, by go_num, HO5, X5, B5⟩
      case measure => simp [intOf]; omega
    · obtain rfl : k = n + 1 := by omega
      go_wp2_with fail
      go_ret
      have h := own_fls HO.out (lst_ok hF.1) (lst_length ..) (by omega)
      rcases HO.out.2 with ⟨_, h0⟩ | ⟨g, cap2, cur, rfl, hb, hg, hn, hc, hs, ht⟩
      · omega
      · exact ⟨⟨g, cap2, rfl, by omega, (Array.getElem?_eq_some_iff.1 hg).1, hn, h⟩, B3⟩
end Go.Proofs.YtbkmpoeaindnaaaDoor.N
