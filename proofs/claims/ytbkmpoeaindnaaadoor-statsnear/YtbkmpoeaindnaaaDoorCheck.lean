/- tri.Check: whether a factor may be. -/
import Derived.Test.YtbkmpoeaindnaaaDoorUnsigned
namespace Go.Proofs.YtbkmpoeaindnaaaDoor
open Go.RowKit Go.Shelf

/-- Whether a factor may be. -/
def checkB (c : Int) (xs : List Nat) (r t : Int) : Bool :=
  decide (0 ≤ r ∧ r ≤ 200 ∧ 0 ≤ t ∧ t ≤ 4096) && (shapeB c xs && (xs.all leH && unsB c.toNat xs))

theorem shapeB_len {c : Int} {xs : List Nat} (h : shapeB c xs = true) : ∃ n : Nat, c = (n : Int) ∧ 1 ≤ n ∧ n ≤ 6 ∧ xs.length = (n + 1) * (n + 2) / 2 := by
  have h' := of_decide_eq_true h
  refine ⟨c.toNat, by omega, by omega, by omega, ?_⟩
  have e : c = (c.toNat : Int) := by omega
  have h2 := h'.2
  rw [e, sizeZ_nat _ (by omega) (by omega)] at h2
  exact_mod_cast h2

set_option maxRecDepth 100000 in
set_option maxHeartbeats 2000000 in
theorem check_c (c r t : Int) (sv : Value) (xs : List Nat) (w : World) (hT : Tab w) (hF : Fls w sv xs) :
    Calls Tryd.prog 31 #[fv c sv r t] w fun e w' => e = .returned (.bool (checkB c xs r t)) ∧ Below w.heap.size w w' := by
  obtain ⟨a, cap, rfl, hcap⟩ := hF.shape
  have hl := hF.2.1
  have hB : Below w.heap.size w (w.alloc (fcells c (.slice a xs.length cap) r t)) := (Below.refl _ w).alloc (Nat.le_refl _) _
  have cA : (w.alloc (fcells c (.slice a xs.length cap) r t)).heap.size = w.heap.size + 1 := World.size_alloc _ _
  have c0 := cell_new w #[.int .i64 c, .slice a xs.length cap, .int .i64 r, .int .i64 t] 24 0 (.int .i64 c) rfl
  have c1 := cell_new w #[.int .i64 c, .slice a xs.length cap, .int .i64 r, .int .i64 t] 24 1 (.slice a xs.length cap) rfl
  have c2 := cell_new w #[.int .i64 c, .slice a xs.length cap, .int .i64 r, .int .i64 t] 24 2 (.int .i64 r) rfl
  have c3 := cell_new w #[.int .i64 c, .slice a xs.length cap, .int .i64 r, .int .i64 t] 24 3 (.int .i64 t) rfl
  by_cases hr : 0 ≤ r ∧ r ≤ 200 ∧ 0 ≤ t ∧ t ≤ 4096
  · obtain ⟨r0, r1, t0, t1⟩ := hr
    have HR : Hid (checkB c xs r t = (shapeB c xs && (xs.all leH && unsB c.toNat xs))) := by show _ = _; unfold checkB; simp [r0, r1, t0, t1]
    have hF1 := hF.below hB (Nat.le_refl _)
    have hT1 := hT.below hB
    have hlt : w.heap.size < (w.alloc (fcells c (.slice a xs.length cap) r t)).heap.size := by omega
    go_enter Tryd.func31, Tryd.ntmps31
    go_wp2_with fail
    refine (shaped_c c r t _ xs _ hF1).mono ?_
    rintro e w1 ⟨rfl, hb1⟩
    have d0 := (hb1.cell (p := ⟨w.heap.size, 0, none⟩) hlt).trans c0
    have d1 := (hb1.cell (p := ⟨w.heap.size, 1, none⟩) hlt).trans c1
    have d2 := (hb1.cell (p := ⟨w.heap.size, 2, none⟩) hlt).trans c2
    have d3 := (hb1.cell (p := ⟨w.heap.size, 3, none⟩) hlt).trans c3
    have hF2 := hF1.below hb1 (Nat.le_refl _)
    have hT2 := hT1.below hb1
    have hB1 := hB.trans (hb1.mono hB.size)
    clear hF1 hT1 c0 c1 c2 c3 hb1
    cases hs : shapeB c xs with
    | false =>
      have HE : Hid (checkB c xs r t = false) := by show _ = _; rw [HR.out, hs]; rfl
      go_wp2_with fail
      go_ret
      exact ⟨ret_bool HE.out.symm, hB1⟩
    | true =>
      obtain ⟨n, rfl, hn1, hn6, hlen⟩ := shapeB_len hs
      have HL : Hid (xs.length = (n + 1) * (n + 2) / 2) := hlen
      have HS : Hid (shapeB n xs = true) := hs
      clear hs hlen
      go_wp2_with fail
      refine (bounded_c _ xs _ hT2 hF2).mono ?_
      rintro e w2 ⟨rfl, hb2⟩
      have hlt1 : w.heap.size < w1.heap.size := lt_of_cell d0
      have e0 := (hb2.cell (p := ⟨w.heap.size, 0, none⟩) hlt1).trans d0
      have e1 := (hb2.cell (p := ⟨w.heap.size, 1, none⟩) hlt1).trans d1
      have e2 := (hb2.cell (p := ⟨w.heap.size, 2, none⟩) hlt1).trans d2
      have e3 := (hb2.cell (p := ⟨w.heap.size, 3, none⟩) hlt1).trans d3
      have hF3 := hF2.below hb2 (Nat.le_refl _)
      have hB2 := hB1.trans (hb2.mono hB1.size)
      clear hF2 d0 d1 d2 d3 hb2
      cases hs : xs.all leH with
      | false =>
        have HE : Hid (checkB n xs r t = false) := by show _ = _; rw [HR.out, HS.out, hs]; rfl
        go_wp2_with fail
        go_ret
        exact ⟨ret_bool HE.out.symm, hB2⟩
      | true =>
        have HE : Hid (checkB n xs r t = unsB n xs) := by show _ = _; rw [HR.out, HS.out, hs]; simp
        go_wp2_with fail
        refine (unsigned_c n r t _ xs _ hn6 HL.out hF3).mono ?_
        rintro e w3 ⟨rfl, hb3⟩
        have hB3 := hB2.trans (hb3.mono hB2.size)
        go_wp2
        go_ret
        exact ⟨ret_bool (by rw [HE.out]), hB3⟩
  · have HE : Hid (checkB c xs r t = false) := by show _ = _; unfold checkB; rw [decide_eq_false hr]; rfl
    by_cases r0 : 0 ≤ r
    · by_cases r1 : r ≤ 200
      · by_cases t0 : 0 ≤ t
        · have t1 : ¬ t ≤ 4096 := by omega
          clear hr
          go_enter Tryd.func31, Tryd.ntmps31
          go_wp2_with fail
          go_ret
          exact ⟨ret_bool HE.out.symm, hB⟩
        · clear hr
          go_enter Tryd.func31, Tryd.ntmps31
          go_wp2_with fail
          go_ret
          exact ⟨ret_bool HE.out.symm, hB⟩
      · clear hr
        go_enter Tryd.func31, Tryd.ntmps31
        go_wp2_with fail
        go_ret
        exact ⟨ret_bool HE.out.symm, hB⟩
    · clear hr
      go_enter Tryd.func31, Tryd.ntmps31
      go_wp2_with fail
      go_ret
      exact ⟨ret_bool HE.out.symm, hB⟩
end Go.Proofs.YtbkmpoeaindnaaaDoor
