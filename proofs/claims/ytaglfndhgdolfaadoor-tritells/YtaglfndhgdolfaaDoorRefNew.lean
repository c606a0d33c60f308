/- levellingref07.New. -/
import Derived.Test.YtaglfndhgdolfaaDoorRefAt
import Derived.Test.YtaglfndhgdolfaaDoorNew
namespace Go.Proofs.YtaglfndhgdolfaaDoor
open Go.RowKit Go.Shelf

set_option maxRecDepth 100000 in
set_option maxHeartbeats 1000000 in
theorem rnew_no (c : Int) (w : World) (hc : ¬ (1 ≤ c ∧ c ≤ 6)) :
    Calls Tryd.prog 13 #[.int .i64 c] w fun e w' => e = .returned (.tuple #[fv 0 (.slice none 0 0) 0 0, .int .i64 1]) ∧ Below w.heap.size w w' := by
  have hs' : (sizeZ c == 0) = true := by rw [sizeZ_no hc]; rfl
  go_enter Tryd.func13, Tryd.ntmps13
  go_wp2_with (go_at_call 15; refine (rsize_c _ _).mono ?_; rintro e w' ⟨rfl, rfl⟩)
  refine bodyPost_ret_by (v := .tuple #[fv 0 (.slice none 0 0) 0 0, .int .i64 1]) ?_ rfl ⟨rfl, (Below.refl _ w).alloc (Nat.le_refl _) _⟩
  simp [results, Tryd.f13, go_sem]

set_option maxRecDepth 100000 in
set_option maxHeartbeats 1000000 in
theorem rnew_yes (n : Nat) (w : World) (h1 : 1 ≤ n) (h6 : n ≤ 6) :
    Calls Tryd.prog 13 #[.int .i64 (n : Int)] w fun e w' => (∃ g, e = .returned (.tuple #[fv n (.slice (some ⟨g, 0, none⟩) ((n + 1) * (n + 2) / 2) ((n + 1) * (n + 2) / 2)) 0 0, .int .i64 0]) ∧ w.heap.size ≤ g ∧ RowF w' g (List.replicate ((n + 1) * (n + 2) / 2) 0)) ∧ Below w.heap.size w w' := by
  have hs := sizeZ_nat n h1 h6
  obtain ⟨s, HS⟩ : ∃ s, Hid ((n + 1) * (n + 2) / 2 = s) := ⟨_, rfl⟩
  rw [HS.out] at hs ⊢
  have hs0 := (sizeZ_pos (c := (n : Int)) (by omega))
  have hs1 : 3 ≤ s ∧ s ≤ 28 := by omega
  have hs' : ((s : Int) == 0) = false := by simp; omega
  have HSZ : Hid (sizeZ (n : Int) = s) := hs
  clear hs hs0
  have hmk := run_make_row' (P := Tryd.prog) 22 40 (.float .f64 0) 8 Tryd.underlying22 Tryd.infoF rfl .i64 .i64 s (by omega) (by omega)
  rw [made_fl] at hmk
  obtain ⟨Z, hZ⟩ : ∃ Z, Z = ((List.replicate s 0).map fl).toArray := ⟨_, rfl⟩
  rw [← hZ] at hmk
  have HZ : Hid (Z = ((List.replicate s 0).map fl).toArray) := hZ
  clear hZ
  go_enter Tryd.func13, Tryd.ntmps13
  go_wp2_with fail
  refine (rsize_c _ _).mono ?_
  rintro e w1 ⟨rfl, rfl⟩
  rw [HSZ.out]
  go_wp2_with fail
  refine (rsize_c _ _).mono ?_
  rintro e w1 ⟨rfl, rfl⟩
  rw [HSZ.out]
  go_wp2_with fail
  refine bodyPost_ret_by (v := .tuple #[fv (n : Int) (.slice (some ⟨w.heap.size + 1, 0, none⟩) s s) 0 0, .int .i64 0]) ?_ rfl ⟨⟨w.heap.size + 1, rfl, by omega, ?_⟩, ((Below.refl _ w).alloc (Nat.le_refl _) _).alloc (by simp) _⟩
  · simp [results, Tryd.f13, go_sem]
  · show _ = _
    rw [← HZ.out]
    have h := Go.Deep.blk_alloc_new (w.alloc (fcells (n : Int) (.slice (some ⟨w.heap.size + 1, 0, none⟩) s s) 0 0)) (.cells Z 40)
    rw [World.size_alloc] at h
    exact h
end Go.Proofs.YtaglfndhgdolfaaDoor
