/- tri.New, tri.Get. -/
import Derived.Deep.OwnRows
import Derived.Test.YtaglfndhgdolfaaDoorCheck
namespace Go.Proofs.YtaglfndhgdolfaaDoor
open Go.RowKit Go.Shelf

theorem Tryd.infoF : (Tryd.prog.info? 40).map (fun i => (i.zero, i.size, i.bytes)) = some (some (.float .f64 0), 1, 8) := by kernel_rfl

/-- A row of floats that the call itself made, whole. -/
def RowF (W : World) (g : Nat) (xs : List Nat) : Prop := W.heap[g]? = some (.cells (xs.map fl).toArray 40 (0, 0))

theorem RowF.fls {W : World} {g : Nat} {xs : List Nat} (h : RowF W g xs) (hok : okF xs) (hl : xs.length ≤ 1000) : Fls W (.slice (some ⟨g, 0, none⟩) xs.length xs.length) xs := by
  refine ⟨hok, hl, .inr ⟨g, 0, xs.length, rfl, Nat.le_refl _, fun j hj => ?_⟩⟩
  have h' : W.heap[g]? = some (.cells (xs.map fl).toArray 40 (0, 0)) := h
  simp only [World.cell?, h', Nat.zero_add]
  simp [hj]

theorem made_fl (n : Nat) : madeCells #[fl 0] n = ((List.replicate n 0).map fl).toArray := by
  apply Array.ext'
  apply List.ext_getElem?
  intro i
  by_cases hi : i < n
  · have h1 : (madeCells #[fl 0] n)[i]? = some (fl 0) := by simp [madeCells, hi, Nat.mod_one]
    rw [Array.getElem?_toList, h1]
    simp [hi]
  · rw [Array.getElem?_toList, Array.getElem?_eq_none (by rw [size_madeCells]; omega)]
    simp; omega

set_option maxRecDepth 100000 in
set_option maxHeartbeats 1000000 in
theorem new_no (c : Int) (w : World) (hc : ¬ (1 ≤ c ∧ c ≤ 6)) :
    Calls Tryd.prog 12 #[.int .i64 c] w fun e w' => e = .returned (.tuple #[fv 0 (.slice none 0 0) 0 0, .int .i64 1]) ∧ Below w.heap.size w w' := by
  have hs' : (sizeZ c == 0) = true := by rw [sizeZ_no hc]; rfl
  go_enter Tryd.func12, Tryd.ntmps12
  go_wp2_with (go_at_call 14; refine (size_c _ _).mono ?_; rintro e w' ⟨rfl, rfl⟩)
  refine bodyPost_ret_by (v := .tuple #[fv 0 (.slice none 0 0) 0 0, .int .i64 1]) ?_ rfl ⟨rfl, (Below.refl _ w).alloc (Nat.le_refl _) _⟩
  simp [results, Tryd.f12, go_sem]

set_option maxRecDepth 100000 in
set_option maxHeartbeats 1000000 in
theorem new_yes (n : Nat) (w : World) (h1 : 1 ≤ n) (h6 : n ≤ 6) :
    Calls Tryd.prog 12 #[.int .i64 (n : Int)] w fun e w' => (∃ g, e = .returned (.tuple #[fv n (.slice (some ⟨g, 0, none⟩) ((n + 1) * (n + 2) / 2) ((n + 1) * (n + 2) / 2)) 0 0, .int .i64 0]) ∧ w.heap.size ≤ g ∧ RowF w' g (List.replicate ((n + 1) * (n + 2) / 2) 0)) ∧ Below w.heap.size w w' := by
  have hs := sizeZ_nat n h1 h6
  obtain ⟨s, HS⟩ : ∃ s, Hid ((n + 1) * (n + 2) / 2 = s) := ⟨_, rfl⟩
  rw [HS.out] at hs ⊢
  have hs0 := (sizeZ_pos (c := (n : Int)) (by omega))
  have hs1 : 3 ≤ s ∧ s ≤ 28 := by omega
  have hs' : ((s : Int) == 0) = false := by simp; omega
  have HSZ : Hid (sizeZ (n : Int) = s) := hs
  clear hs hs0
  have hmk := run_make_row' (P := Tryd.prog) 22 40 (.float .f64 0) 8 Tryd.underlying22 Tryd.infoF rfl .i64 .i64 s (by omega) (by omega)
  rw [made_fl] at hmk
  obtain ⟨Z, hZ⟩ : ∃ Z, Z = ((List.replicate s 0).map fl).toArray := ⟨_, rfl⟩
  rw [← hZ] at hmk
  have HZ : Hid (Z = ((List.replicate s 0).map fl).toArray) := hZ
  clear hZ
  go_enter Tryd.func12, Tryd.ntmps12
  go_wp2_with fail
  refine (size_c _ _).mono ?_
  rintro e w1 ⟨rfl, rfl⟩
  rw [HSZ.out]
  go_wp2_with fail
  refine bodyPost_ret_by (v := .tuple #[fv (n : Int) (.slice (some ⟨w.heap.size + 1, 0, none⟩) s s) 0 0, .int .i64 0]) ?_ rfl ⟨⟨w.heap.size + 1, rfl, by omega, ?_⟩, ((Below.refl _ w).alloc (Nat.le_refl _) _).alloc (by simp) _⟩
  · simp [results, Tryd.f12, go_sem]
  · show _ = _
    rw [← HZ.out]
    have h := Go.Deep.blk_alloc_new (w.alloc (fcells (n : Int) (.slice (some ⟨w.heap.size + 1, 0, none⟩) s s) 0 0)) (.cells Z 40)
    rw [World.size_alloc] at h
    exact h

/-- What stands at a place of a factor. -/
def getN (c : Int) (xs : List Nat) (r t i j : Int) : Nat :=
  if inTri c i j ∧ checkB c xs r t = true then xs[place c.toNat i.toNat + (j.toNat - i.toNat)]?.getD 0 else 0

theorem check_len {c r t : Int} {xs : List Nat} (h : checkB c xs r t = true) : ∃ n : Nat, c = (n : Int) ∧ 1 ≤ n ∧ n ≤ 6 ∧ xs.length = (n + 1) * (n + 2) / 2 := by
  unfold checkB at h
  simp only [Bool.and_eq_true] at h
  exact shapeB_len h.2.1

theorem inTri_nat {c i j : Int} (h : inTri c i j) : ∃ n a b : Nat, c = (n : Int) ∧ i = (a : Int) ∧ j = (b : Int) ∧ 1 ≤ n ∧ n ≤ 6 ∧ a ≤ b ∧ b ≤ n := by
  obtain ⟨⟨h1, h2⟩, h3, h4, h5⟩ := h
  exact ⟨c.toNat, i.toNat, j.toNat, by omega, by omega, by omega, by omega, by omega, by omega, by omega⟩

set_option maxRecDepth 100000 in
set_option maxHeartbeats 2000000 in
theorem get_c (c r t i j : Int) (sv : Value) (xs : List Nat) (w : World) (hT : Tab w) (hF : Fls w sv xs) :
    Calls Tryd.prog 22 #[fv c sv r t, .int .i64 i, .int .i64 j] w fun e w' => e = .returned (fl (getN c xs r t i j)) ∧ Below w.heap.size w w' := by
  obtain ⟨a, cap, rfl, hcap⟩ := hF.shape
  have hl := hF.2.1
  have hB : Below w.heap.size w (w.alloc (fcells c (.slice a xs.length cap) r t)) := (Below.refl _ w).alloc (Nat.le_refl _) _
  have cA : (w.alloc (fcells c (.slice a xs.length cap) r t)).heap.size = w.heap.size + 1 := World.size_alloc _ _
  have c0 := cell_new w #[.int .i64 c, .slice a xs.length cap, .int .i64 r, .int .i64 t] 24 0 (.int .i64 c) rfl
  have c1 := cell_new w #[.int .i64 c, .slice a xs.length cap, .int .i64 r, .int .i64 t] 24 1 (.slice a xs.length cap) rfl
  have c2 := cell_new w #[.int .i64 c, .slice a xs.length cap, .int .i64 r, .int .i64 t] 24 2 (.int .i64 r) rfl
  have c3 := cell_new w #[.int .i64 c, .slice a xs.length cap, .int .i64 r, .int .i64 t] 24 3 (.int .i64 t) rfl
  have hF1 := hF.below hB (Nat.le_refl _)
  have hT1 := hT.below hB
  have hlt : w.heap.size < (w.alloc (fcells c (.slice a xs.length cap) r t)).heap.size := by omega
  by_cases hin : inTri c i j
  · obtain ⟨n, ni, nj, rfl, rfl, rfl, hn1, hn6, hij, hjn⟩ := inTri_nat hin
    obtain ⟨P, HP⟩ : ∃ P, Hid (place n ni + (nj - ni) = P) := ⟨_, rfl⟩
    go_enter Tryd.func22, Tryd.ntmps22
    go_wp2_with fail
    refine (at_yes n ni nj _ hn1 hn6 hij hjn).mono ?_
    rw [HP.out]
    rintro e w1 ⟨rfl, hb1⟩
    have d0 := (hb1.cell (p := ⟨w.heap.size, 0, none⟩) hlt).trans c0
    have d1 := (hb1.cell (p := ⟨w.heap.size, 1, none⟩) hlt).trans c1
    have d2 := (hb1.cell (p := ⟨w.heap.size, 2, none⟩) hlt).trans c2
    have d3 := (hb1.cell (p := ⟨w.heap.size, 3, none⟩) hlt).trans c3
    have hF2 := hF1.below hb1 (Nat.le_refl _)
    have hT2 := hT1.below hb1
    have hB1 := hB.trans (hb1.mono hB.size)
    clear hF1 hT1 c0 c1 c2 c3 hb1
    go_wp2_with fail
    refine (check_c n r t _ xs _ hT2 hF2).mono ?_
    rintro e w2 ⟨rfl, hb2⟩
    have hlt1 : w.heap.size < w1.heap.size := lt_of_cell d0
    have e1 := (hb2.cell (p := ⟨w.heap.size, 1, none⟩) hlt1).trans d1
    have hF3 := hF2.below hb2 (Nat.le_refl _)
    have hB2 := hB1.trans (hb2.mono hB1.size)
    clear hF2 d0 d1 d2 d3 hb2
    cases hck : checkB n xs r t with
    | false =>
      have HG : Hid (getN n xs r t ni nj = 0) := by show _ = _; unfold getN; rw [if_neg (by rw [hck]; simp)]
      go_wp2_with fail
      go_ret
      exact ⟨ret_fl HG.out.symm, hB2⟩
    | true =>
      have HG : Hid (getN n xs r t ni nj = xs[P]?.getD 0) := by show _ = _; unfold getN; rw [if_pos ⟨hin, hck⟩]; simp [HP.out]
      obtain ⟨n', hn', _, _, hlen⟩ := check_len hck
      obtain rfl : n = n' := by omega
      have hPl : P < xs.length := by have := place_in n hn6 ni (by omega); have := HP.out; omega
      obtain ⟨b, off, cap', e, hb, hc', hcs⟩ := hF3.cell (by omega)
      cases e
      have hcx := hcs P hPl
      obtain ⟨x, hx⟩ : ∃ x, xs[P]?.getD 0 = x := ⟨_, rfl⟩
      rw [hx] at hcx HG
      clear hcs hx hlen hn'
      go_wp2_with fail
      go_ret
      exact ⟨ret_fl HG.out.symm, hB2⟩
  · have HG : Hid (getN c xs r t i j = 0) := by show _ = _; unfold getN; rw [if_neg (fun h => hin h.1)]
    go_enter Tryd.func22, Tryd.ntmps22
    go_wp2_with fail
    refine (at_no c i j _ hin).mono ?_
    rintro e w1 ⟨rfl, hb1⟩
    go_wp2_with fail
    go_ret
    exact ⟨ret_fl HG.out.symm, hB.trans (hb1.mono hB.size)⟩
end Go.Proofs.YtaglfndhgdolfaaDoor
