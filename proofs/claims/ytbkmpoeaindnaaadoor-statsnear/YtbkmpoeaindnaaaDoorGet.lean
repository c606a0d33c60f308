/- tri.Get. -/
import Derived.Test.YtbkmpoeaindnaaaDoorOwn
namespace Go.Proofs.YtbkmpoeaindnaaaDoor
open Go.RowKit Go.Shelf

set_option maxRecDepth 100000 in
set_option maxHeartbeats 2000000 in
theorem get_c (c r t i j : Int) (sv : Value) (xs : List Nat) (w : World) (hT : Tab w) (hF : Fls w sv xs) :
    Calls Tryd.prog 78 #[fv c sv r t, .int .i64 i, .int .i64 j] w fun e w' => e = .returned (fl (getN c xs r t i j)) ∧ Below w.heap.size w w' := by
  obtain ⟨a, cap, rfl, hcap⟩ := hF.shape
  have hl := hF.2.1
  have hB : Below w.heap.size w (w.alloc (fcells c (.slice a xs.length cap) r t)) := (Below.refl _ w).alloc (Nat.le_refl _) _
  have cA : (w.alloc (fcells c (.slice a xs.length cap) r t)).heap.size = w.heap.size + 1 := World.size_alloc _ _
  have c0 := cell_new w #[.int .i64 c, .slice a xs.length cap, .int .i64 r, .int .i64 t] 24 0 (.int .i64 c) rfl
  have c1 := cell_new w #[.int .i64 c, .slice a xs.length cap, .int .i64 r, .int .i64 t] 24 1 (.slice a xs.length cap) rfl
  have c2 := cell_new w #[.int .i64 c, .slice a xs.length cap, .int .i64 r, .int .i64 t] 24 2 (.int .i64 r) rfl
  have c3 := cell_new w #[.int .i64 c, .slice a xs.length cap, .int .i64 r, .int .i64 t] 24 3 (.int .i64 t) rfl
  have hF1 := hF.below hB (Nat.le_refl _)
  have hT1 := hT.below hB
  have hlt : w.heap.size < (w.alloc (fcells c (.slice a xs.length cap) r t)).heap.size := by omega
  by_cases hin : inTri c i j
  · obtain ⟨n, ni, nj, rfl, rfl, rfl, hn1, hn6, hij, hjn⟩ := inTri_nat hin
    obtain ⟨P, HP⟩ : ∃ P, Hid (place n ni + (nj - ni) = P) := ⟨_, rfl⟩
    go_enter Tryd.func78, Tryd.ntmps78
    go_wp2_with fail
    refine (at_yes n ni nj _ hn1 hn6 hij hjn).mono ?_
    rw [HP.out]
    rintro e w1 ⟨rfl, hb1⟩
    have d0 := (hb1.cell (p := ⟨w.heap.size, 0, none⟩) hlt).trans c0
    have d1 := (hb1.cell (p := ⟨w.heap.size, 1, none⟩) hlt).trans c1
    have d2 := (hb1.cell (p := ⟨w.heap.size, 2, none⟩) hlt).trans c2
    have d3 := (hb1.cell (p := ⟨w.heap.size, 3, none⟩) hlt).trans c3
    have hF2 := hF1.below hb1 (Nat.le_refl _)
    have hT2 := hT1.below hb1
    have hB1 := hB.trans (hb1.mono hB.size)
    clear hF1 hT1 c0 c1 c2 c3 hb1
    go_wp2_with fail
    refine (check_c n r t _ xs _ hT2 hF2).mono ?_
    rintro e w2 ⟨rfl, hb2⟩
    have hlt1 : w.heap.size < w1.heap.size := lt_of_cell d0
    have e1 := (hb2.cell (p := ⟨w.heap.size, 1, none⟩) hlt1).trans d1
    have hF3 := hF2.below hb2 (Nat.le_refl _)
    have hB2 := hB1.trans (hb2.mono hB1.size)
    clear hF2 d0 d1 d2 d3 hb2
    cases hck : checkB n xs r t with
    | false =>
      have HG : Hid (getN n xs r t ni nj = 0) := by show _ = _; unfold getN; rw [if_neg (by rw [hck]; simp)]
      go_wp2_with fail
      go_ret
      exact ⟨ret_fl HG.out.symm, hB2⟩
    | true =>
      have HG : Hid (getN n xs r t ni nj = xs[P]?.getD 0) := by show _ = _; unfold getN; rw [if_pos ⟨hin, hck⟩]; simp [HP.out]
      obtain ⟨n', hn', _, _, hlen⟩ := check_len hck
      obtain rfl : n = n' := by omega
      have hPl : P < xs.length := by have := place_in n hn6 ni (by omega); have := HP.out; omega
      obtain ⟨b, off, cap', e, hb, hc', hcs⟩ := hF3.cell (by omega)
      cases e
      have hcx := hcs P hPl
      obtain ⟨x, hx⟩ : ∃ x, xs[P]?.getD 0 = x := ⟨_, rfl⟩
      rw [hx] at hcx HG
      clear hcs hx hlen hn'
      go_wp2_with fail
      go_ret
      exact ⟨ret_fl HG.out.symm, hB2⟩
  · have HG : Hid (getN c xs r t i j = 0) := by show _ = _; unfold getN; rw [if_neg (fun h => hin h.1)]
    go_enter Tryd.func78, Tryd.ntmps78
    go_wp2_with fail
    refine (at_no c i j _ hin).mono ?_
    rintro e w1 ⟨rfl, hb1⟩
    go_wp2_with fail
    go_ret
    exact ⟨ret_fl HG.out.symm, hB.trans (hb1.mono hB.size)⟩
end Go.Proofs.YtbkmpoeaindnaaaDoor
