/- tri.At, where there is a place. -/
import Derived.Test.YtbkmpoeaindnaaaDoorAt
namespace Go.Proofs.YtbkmpoeaindnaaaDoor
open Go.RowKit Go.Shelf
attribute [local go_sem] Oper.semAt_some

set_option maxRecDepth 100000 in
set_option maxHeartbeats 2000000 in
theorem at_yes_in (m : Nat) (hm : 3 ≤ m) (n i j : Nat) (w : World) (hn1 : 1 ≤ n) (hn6 : n ≤ 6) (hij : i ≤ j) (hjn : j ≤ n) :
    CallsIn Fence.wide m Tryd.prog 82 #[.int .i64 (n : Int), .int .i64 (i : Int), .int .i64 (j : Int)] w fun e w' => e = .returned (.tuple #[.int .i64 ((place n i + (j - i) : Nat) : Int), .bool true]) ∧ Below w.heap.size w w' := by
  have h1 : 1 ≤ m := by omega
  have hro : Fence.wide.round = none := rfl
  obtain ⟨R, HR⟩ : ∃ R, Hid (R = place n i + (j - i)) := ⟨_, rfl⟩
  have hpi := place_small n i hn6 (by omega)
  refine callsIn_of_wp_marks Tryd.func82 rfl trivial ?_ hro
  rw [← HR.out]
  simp only [Tryd.ntmps82, List.size_toArray, List.length_cons, List.length_nil, Nat.reduceAdd, Nat.reduceSub, Array.replicate_succ, Array.replicate_zero, List.push_toArray, List.append_toArray, List.nil_append, List.cons_append]
  have hs := (sizeZ_pos (c := (n : Int)) (by omega)).1
  have hs' : (sizeZ (n : Int) == 0) = false := by simp; omega
  clear hs
  gi_wp2_with (first | (refine ⟨trivial, ?_⟩; gi_at_call 74; refine (callsIn_wide.2 (size_c _ _)).mono ?_; rintro e w' ⟨rfl, rfl⟩) | (refine ⟨trivial, ?_⟩; gi_at_call 76; refine (rows_in Fence.wide (m - 1) trivial hro _ _).mono ?_; rintro e w' ⟨rfl, rfl⟩))
  have bI := Boxed.new w 3 (.int .i64 (i : Int))
  have bJ := Boxed.new (w.alloc (.cells #[.int .i64 (i : Int)] 3)) 3 (.int .i64 (j : Int))
  have bR := Boxed.new ((w.alloc (.cells #[.int .i64 (i : Int)] 3)).alloc (.cells #[.int .i64 (j : Int)] 3)) 3 (.int .i64 0)
  have bB := Boxed.new (((w.alloc (.cells #[.int .i64 (i : Int)] 3)).alloc (.cells #[.int .i64 (j : Int)] 3)).alloc (.cells #[.int .i64 0] 3)) 4 (.bool false)
  have bN := Boxed.new ((((w.alloc (.cells #[.int .i64 (i : Int)] 3)).alloc (.cells #[.int .i64 (j : Int)] 3)).alloc (.cells #[.int .i64 0] 3)).alloc (.cells #[.bool false] 4)) 3 (.int .i64 (n : Int))
  simp only [World.size_alloc] at bJ bR bB bN
  have bI := (((bI.alloc (.cells #[.int .i64 (j : Int)] 3)).alloc (.cells #[.int .i64 0] 3)).alloc (.cells #[.bool false] 4)).alloc (.cells #[.int .i64 (n : Int)] 3)
  have bJ := ((bJ.alloc (.cells #[.int .i64 0] 3)).alloc (.cells #[.bool false] 4)).alloc (.cells #[.int .i64 (n : Int)] 3)
  have bR := (bR.alloc (.cells #[.bool false] 4)).alloc (.cells #[.int .i64 (n : Int)] 3)
  have bB := bB.alloc (.cells #[.int .i64 (n : Int)] 3)
  have hB0 : Below w.heap.size w (((((w.alloc (.cells #[.int .i64 (i : Int)] 3)).alloc (.cells #[.int .i64 (j : Int)] 3)).alloc (.cells #[.int .i64 0] 3)).alloc (.cells #[.bool false] 4)).alloc (.cells #[.int .i64 (n : Int)] 3)) :=
    (((((Below.refl _ w).alloc (Nat.le_refl _) _).alloc (by simp) _).alloc (by simp; omega) _).alloc (by simp; omega) _).alloc (by simp; omega) _
  refine wpIn_rangeFunc_ownG hro h1 (gf := 81) (lb := #[.pointer (some ⟨w.heap.size + 1 + 1 + 1 + 1, 0, none⟩)]) rfl trivial (enters_of Tryd.func81 (by kernel_rfl) rfl)
    (rows_stops Fence.wide (m - 1) trivial hro (by omega) (w.heap.size + 1 + 1 + 1 + 1) w.heap.size n hn6 _ bN.cell) KpB_t (KpB_b (by simp; omega) (by simp)) (Below.refl _ _) (fun _ => rfl)
    (fun pre W => ((∀ p ∈ pre, p.1.1 ≠ i) ∧ (W.cell? ⟨w.heap.size, 0, none⟩ = some (.int .i64 (i : Int)) ∧ W.cell? ⟨w.heap.size + 1, 0, none⟩ = some (.int .i64 (j : Int))) ∧ (W.cell? ⟨w.heap.size + 1 + 1, 0, none⟩ = some (.int .i64 0) ∧ W.frozen? ⟨w.heap.size + 1 + 1, 0, none⟩ = false) ∧ (W.cell? ⟨w.heap.size + 1 + 1 + 1, 0, none⟩ = some (.bool false) ∧ W.frozen? ⟨w.heap.size + 1 + 1 + 1, 0, none⟩ = false)) ∧ Below w.heap.size w W)
    (fun c pre W => (c = .ret ∧ W.cell? ⟨w.heap.size + 1 + 1, 0, none⟩ = some (.int .i64 (R : Int)) ∧ W.cell? ⟨w.heap.size + 1 + 1 + 1, 0, none⟩ = some (.bool true)) ∧ Below w.heap.size w W)
    (OwnFrom.and (Own.from (fun s A B row hs hg hr => ⟨hs.1, ⟨cell_kept hs.2.1.1 hg hr, cell_kept hs.2.1.2 hg hr⟩, ⟨cell_kept hs.2.2.1.1 hg hr, (frozen_kept hs.2.2.1.1 hg hr).trans hs.2.2.1.2⟩, ⟨cell_kept hs.2.2.2.1 hg hr, (frozen_kept hs.2.2.2.1 hg hr).trans hs.2.2.2.2⟩⟩) _) (ownFrom_below (Nat.le_refl _) (by simp; omega)))
    (fun c => OwnFrom.and (Own.from (fun s A B row hs hg hr => ⟨hs.1, cell_kept hs.2.1 hg hr, cell_kept hs.2.2 hg hr⟩) _) (ownFrom_below (Nat.le_refl _) (by simp; omega)))
    ⟨⟨by simp, ⟨bI.cell, bJ.cell⟩, ⟨bR.cell, bR.frozen⟩, ⟨bB.cell, bB.frozen⟩⟩, hB0⟩
    (fun x => { tmps := #[.int .i64 (n : Int), .int .i64 (i : Int), .int .i64 (j : Int), undef, .pointer (some ⟨w.heap.size, 0, none⟩), .pointer (some ⟨w.heap.size + 1, 0, none⟩), .pointer (some ⟨w.heap.size + 1 + 1, 0, none⟩), .pointer (some ⟨w.heap.size + 1 + 1 + 1, 0, none⟩), .int .i64 (x.1.1 : Int), .int .i64 (x.1.2 : Int), .int .i64 (n : Int), .int .i64 (sizeZ n), .bool false, .bool false, .int .i64 (i : Int), .bool false, .bool false, .bool false, .int .i64 (j : Int), .int .i64 (i : Int), .bool false, .bool false, .bool false, .int .i64 (j : Int), .int .i64 (n : Int), .bool false, .bool false, .int .i64 (n : Int), .func (.func 81) #[] #[.pointer (some ⟨w.heap.size + 1 + 1 + 1 + 1, 0, none⟩)], .int .i64 (x.1.1 : Int), .int .i64 (x.1.2 : Int), undef, undef, undef, undef, undef, undef, undef, undef], defers := [] }) ?assign ?body ?done ?stop
  case assign =>
    intro l x W K hK
    gi_wp2
    exact hK
  case body =>
    rintro l pre x W ⟨⟨hp, ⟨hci, hcj⟩, ⟨hcr, hfr⟩, ⟨hcb, hfb⟩⟩, hB⟩ _
    have hx1 := x.2.1
    have hps := place_small n x.1.1 hn6 (by omega)
    have hx2 : x.1.2 ≤ 49 := by rw [← x.2.2]; exact hps
    by_cases hx : x.1.1 = i
    · have hx' : ((x.1.1 : Int) == (i : Int)) = true := by simp [hx]
      have HX : Hid (x.1.2 = place n i) := by show _ = _; rw [← x.2.2, hx]
      have HRZ : Hid ((R : Int) = (x.1.2 : Int) + (j : Int) - (i : Int)) := by show _ = _; rw [HR.out, HX.out]; omega
      clear hx
      gi_wp2
      have e1 : (W.setCell ⟨w.heap.size + 1 + 1, 0, none⟩ (.int .i64 ((x.1.2 : Int) + (j : Int) - (i : Int)))).cell? ⟨w.heap.size + 1 + 1, 0, none⟩ = some (.int .i64 (R : Int)) := by
        rw [HRZ.out]; exact World.cell?_setCell_same' _ _ _ (by rw [hcr]; rfl)
      have e2 : (W.setCell ⟨w.heap.size + 1 + 1, 0, none⟩ (.int .i64 ((x.1.2 : Int) + (j : Int) - (i : Int)))).cell? ⟨w.heap.size + 1 + 1 + 1, 0, none⟩ = some (.bool false) :=
        (World.cell?_of_block (Below.heap_setCell W ⟨w.heap.size + 1 + 1, 0, none⟩ _ (w.heap.size + 1 + 1 + 1) (by simp))).trans hcb
      refine ⟨((KeepsOthers.setCell _ _ _).trans (KeepsOthers.setCell _ _ _)).from _, ⟨rfl, ?_, World.cell?_setCell_same' _ _ _ (by rw [e2]; rfl)⟩, (hB.setCell (p := ⟨w.heap.size + 1 + 1, 0, none⟩) (by simp; omega) _).setCell (p := ⟨w.heap.size + 1 + 1 + 1, 0, none⟩) (by simp; omega) _⟩
      exact (World.cell?_of_block (Below.heap_setCell _ ⟨w.heap.size + 1 + 1 + 1, 0, none⟩ _ (w.heap.size + 1 + 1) (by simp))).trans e1
    · have hx' : ((x.1.1 : Int) == (i : Int)) = false := by simp; omega
      have HX : Hid (x.1.1 ≠ i) := hx
      clear hx
      gi_wp2
      exact ⟨KeepsFrom.refl _ _, KpB.refl _ _ _, ⟨fun p hp' => (List.mem_append.1 hp').elim (hp p) (fun e => by simp at e; subst e; exact HX.out), ⟨hci, hcj⟩, ⟨hcr, hfr⟩, ⟨hcb, hfb⟩⟩, hB⟩
  case done =>
    rintro D ys W hD hys ⟨⟨hne, _⟩, hB⟩ hK
    exfalso
    have hm := seqR_mem (n := n) (k := n + 1) (j := i) (by omega)
    rw [← hys] at hm
    obtain ⟨p, hp1, hp2⟩ := List.mem_map.1 hm
    exact hne p hp1 (by rw [hp2])
  case stop =>
    rintro D c pre W hD ⟨k, hk, hpre⟩ ⟨⟨rfl, hcr, hcb⟩, hB⟩ hK
    gi_wp2
    refine ⟨by simp, .inl ⟨_, _, rfl, run_takeDeferred hK, ?_⟩⟩
    have hc5 := cell_kept hcr (grownBy_putObj' _ D (.deferred none)) (fun r e => by cases e; exact ⟨_, hK, rfl⟩)
    have hc6 := cell_kept hcb (grownBy_putObj' _ D (.deferred none)) (fun r e => by cases e; exact ⟨_, hK, rfl⟩)
    refine ⟨.tuple #[.int .i64 (R : Int), .bool true], ?_, rfl, hB.trans (belowK_b (w := w) (Nat.le_refl _) W D _ _ (by simp at hD; omega) hK rfl rfl)⟩
    simp [results, Tryd.f82, go_sem, hc5, hc6]

theorem at_yes (n i j : Nat) (w : World) (hn1 : 1 ≤ n) (hn6 : n ≤ 6) (hij : i ≤ j) (hjn : j ≤ n) :
    Calls Tryd.prog 82 #[.int .i64 (n : Int), .int .i64 (i : Int), .int .i64 (j : Int)] w fun e w' => e = .returned (.tuple #[.int .i64 ((place n i + (j - i) : Nat) : Int), .bool true]) ∧ Below w.heap.size w w' := callsIn_wide.1 (at_yes_in 3 (by omega) n i j w hn1 hn6 hij hjn)
end Go.Proofs.YtbkmpoeaindnaaaDoor
