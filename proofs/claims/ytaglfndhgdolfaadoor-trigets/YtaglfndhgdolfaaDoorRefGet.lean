/- levellingref07.Get. -/
import Derived.Test.YtaglfndhgdolfaaDoorRefCheck
import Derived.Test.YtaglfndhgdolfaaDoorNew
namespace Go.Proofs.YtaglfndhgdolfaaDoor
open Go.RowKit Go.Shelf

set_option maxRecDepth 100000 in
set_option maxHeartbeats 2000000 in
theorem rget_c (c r t i j : Int) (sv : Value) (xs : List Nat) (w : World) (hF : Fls w sv xs) :
    Calls Tryd.prog 23 #[fv c sv r t, .int .i64 i, .int .i64 j] w fun e w' => e = .returned (fl (getN c xs r t i j)) ∧ Below w.heap.size w w' := by
  obtain ⟨a, cap, rfl, hcap⟩ := hF.shape
  have hl := hF.2.1
  have hB : Below w.heap.size w (w.alloc (fcells c (.slice a xs.length cap) r t)) := (Below.refl _ w).alloc (Nat.le_refl _) _
  have X := FBox.new w c (.slice a xs.length cap) r t
  have hF1 := hF.below hB (Nat.le_refl _)
  by_cases hin : inTri c i j
  · obtain ⟨n, ni, nj, rfl, rfl, rfl, hn1, hn6, hij, hjn⟩ := inTri_nat hin
    obtain ⟨P, HP⟩ : ∃ P, Hid (place n ni + (nj - ni) = P) := ⟨_, rfl⟩
    go_enter Tryd.func23, Tryd.ntmps23
    go_wp2_with fail
    refine (rat_yes n ni nj _ hn1 hn6 hij hjn).mono ?_
    rw [HP.out]
    rintro e w1 ⟨rfl, rfl⟩
    go_wp2_with fail
    refine (rcheck_c n r t _ xs _ hF1).mono ?_
    rintro e w2 ⟨rfl, hb2⟩
    have X2 := X.below hb2 (Nat.le_refl _)
    have e1 := X2.c1
    have hF3 := hF1.below hb2 (Nat.le_refl _)
    have hB2 := hB.trans (hb2.mono hB.size)
    clear hF1 hb2 X X2
    cases hck : checkB n xs r t with
    | false =>
      have HG : Hid (getN n xs r t ni nj = 0) := by show _ = _; unfold getN; rw [if_neg (by rw [hck]; simp)]
      go_wp2_with fail
      go_ret
      exact ⟨ret_fl HG.out.symm, hB2⟩
    | true =>
      have HG : Hid (getN n xs r t ni nj = xs[P]?.getD 0) := by show _ = _; unfold getN; rw [if_pos ⟨hin, hck⟩]; simp [HP.out]
      obtain ⟨n', hn', _, _, hlen⟩ := check_len hck
      obtain rfl : n = n' := by omega
      have hPl : P < xs.length := by have := place_in n hn6 ni (by omega); have := HP.out; omega
      obtain ⟨b, off, cap', e, hb, hc', hcs⟩ := hF3.cell (by omega)
      cases e
      have hcx := hcs P hPl
      obtain ⟨x, hx⟩ : ∃ x, xs[P]?.getD 0 = x := ⟨_, rfl⟩
      rw [hx] at hcx HG
      clear hcs hx hlen hn'
      go_wp2_with fail
      go_ret
      exact ⟨ret_fl HG.out.symm, hB2⟩
  · have HG : Hid (getN c xs r t i j = 0) := by show _ = _; unfold getN; rw [if_neg (fun h => hin h.1)]
    obtain ⟨ck, HCK⟩ : ∃ ck, Hid (checkB c xs r t = ck) := ⟨_, rfl⟩
    go_enter Tryd.func23, Tryd.ntmps23
    go_wp2_with fail
    refine (rat_no c i j _ hin).mono ?_
    rintro e w1 ⟨rfl, rfl⟩
    go_wp2_with fail
    refine (rcheck_c c r t _ xs _ hF1).mono ?_
    rw [HCK.out]
    rintro e w2 ⟨rfl, hb2⟩
    cases ck with
    | false =>
      go_wp2_with fail
      go_ret
      exact ⟨ret_fl HG.out.symm, hB.trans (hb2.mono hB.size)⟩
    | true =>
      go_wp2_with fail
      go_ret
      exact ⟨ret_fl HG.out.symm, hB.trans (hb2.mono hB.size)⟩
end Go.Proofs.YtaglfndhgdolfaaDoor
