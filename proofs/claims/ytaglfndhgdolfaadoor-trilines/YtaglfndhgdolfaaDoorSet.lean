/- tri.Set: a factor with a row set. -/
import Derived.Test.YtaglfndhgdolfaaDoorFBox
namespace Go.Proofs.YtaglfndhgdolfaaDoor
open Go.RowKit Go.Shelf

/-- The entries with row i set to those of l from place i on. -/
def setN (n : Nat) (xs : List Nat) (i : Nat) (l : List Nat) : List Nat := splice xs (place n i) (l.drop i)

theorem set_length {n i : Nat} {xs l : List Nat} (h6 : n ≤ 6) (hi : i ≤ n) (hl : xs.length = (n + 1) * (n + 2) / 2) (hll : l.length = n + 1) : (setN n xs i l).length = xs.length := by
  have := place_in n h6 i hi
  exact length_splice _ _ _ (by simp; omega)
theorem set_ok {n i : Nat} {xs l : List Nat} (h : okF xs) (h' : okF l) : okF (setN n xs i l) := by
  intro x hx
  rcases List.mem_append.1 hx with h1 | h1
  · exact h x (List.mem_of_mem_take h1)
  · rcases List.mem_append.1 h1 with h1 | h1
    · exact h' x (List.mem_of_mem_drop h1)
    · exact h x (List.mem_of_mem_drop h1)
theorem splice_set (n i : Nat) (xs l : List Nat) (rest : List Value) (h6 : n ≤ 6) (hi : i ≤ n) (hl : xs.length = (n + 1) * (n + 2) / 2) (hll : l.length = n + 1) :
    splice (xs.map fl ++ rest) (place n i) ((l.drop i).map fl) = (setN n xs i l).map fl ++ rest := by
  have := place_in n h6 i hi
  unfold splice setN splice
  rw [List.length_map, List.length_drop, List.take_append_of_le_length (by simp; omega), List.drop_append_of_le_length (by simp; omega)]
  simp [List.map_take, List.map_drop]

/-- Whether Set goes. -/
def setB (c : Int) (xs : List Nat) (r t i : Int) (l : List Nat) : Bool :=
  decide (inTri c i i) && checkB c xs r t && decide ((l.length : Int) = c + 1) && checkB c (setN c.toNat xs i.toNat l) r t

set_option maxRecDepth 100000 in
set_option maxHeartbeats 2000000 in
/-- Where what is handed in is such that the row is set. -/
theorem set_c (n i : Nat) (r t : Int) (sv lv : Value) (xs l : List Nat) (w : World) (hT : Tab w) (hF : Fls w sv xs) (hL : Fls w lv l) (hck : checkB n xs r t = true) (hin : i ≤ n) (hll : l.length = n + 1) :
    Calls Tryd.prog 19 #[fv n sv r t, .int .i64 (i : Int), lv] w fun e w' =>
      ((checkB n (setN n xs i l) r t = true ∧ ∃ g cap, e = .returned (.tuple #[fv n (.slice (some ⟨g, 0, none⟩) xs.length cap) r t, .bool true]) ∧ w.heap.size ≤ g ∧ RowX w' g cap (setN n xs i l)) ∨
       (checkB n (setN n xs i l) r t = false ∧ e = .returned (.tuple #[fv 0 (.slice none 0 0) 0 0, .bool false]))) ∧ Below w.heap.size w w' := by
  obtain ⟨n', hn', hn1, hn6, hlen⟩ := check_len hck
  obtain rfl : n = n' := by omega
  have hl := hF.2.1
  have hpi := place_in n hn6 i hin
  have hpos : 0 < xs.length := by omega
  obtain ⟨b, off, cap, rfl, hb, hcap, hcs⟩ := hF.cell hpos
  obtain ⟨lb, loff, lcap, rfl, hlb, hlcap, hlcs⟩ := hL.cell (by omega)
  have hB : Below w.heap.size w ((w.alloc (fcells n (.slice (some ⟨b, off, none⟩) xs.length cap) r t)).alloc (fcells 0 (.slice none 0 0) 0 0)) := ((Below.refl _ w).alloc (Nat.le_refl _) _).alloc (by simp) _
  have bF0 : FBox ((w.alloc (fcells n (.slice (some ⟨b, off, none⟩) xs.length cap) r t)).alloc (fcells 0 (.slice none 0 0) 0 0)) w.heap.size n (.slice (some ⟨b, off, none⟩) xs.length cap) r t := (FBox.new w _ _ _ _).below ((Below.refl _ _).alloc (Nat.le_refl _) _) (Nat.le_refl _)
  have bR0 : FBox ((w.alloc (fcells n (.slice (some ⟨b, off, none⟩) xs.length cap) r t)).alloc (fcells 0 (.slice none 0 0) 0 0)) (w.heap.size + 1) 0 (.slice none 0 0) 0 0 := by
    have h := FBox.new (w.alloc (fcells n (.slice (some ⟨b, off, none⟩) xs.length cap) r t)) 0 (.slice none 0 0) 0 0
    rw [World.size_alloc] at h; exact h
  obtain ⟨p, HP⟩ : ∃ p, Hid (place n i = p) := ⟨_, rfl⟩
  rw [HP.out] at hpi
  have HL : Hid (xs.length = (n + 1) * (n + 2) / 2) := hlen
  rw [← hlen] at hpi
  have HLL : Hid (l.length = n + 1) := hll
  have HLCS : Hid (∀ j, j < l.length → w.cell? ⟨lb, loff + j, none⟩ = some (fl (l[j]?.getD 0))) := hlcs
  have hF1 := hF.below hB (Nat.le_refl _)
  have hT1 := hT.below hB
  clear hlen hn' hcs hlcs
  have hlen' : ((l.length : Int) != (n : Int) + 1) = false := by simp; omega
  clear hll
  go_enter Tryd.func19, Tryd.ntmps19
  go_wp2_with fail
  refine (at_yes n i i _ hn1 hn6 (Nat.le_refl _) hin).mono ?_
  rw [Nat.sub_self, Nat.add_zero, HP.out]
  rintro e w1 ⟨rfl, hb1⟩
  have bF1 := bF0.below hb1 (Nat.le_refl _)
  have bR1 := bR0.below hb1 (Nat.le_refl _)
  have hF2 := hF1.below hb1 (Nat.le_refl _)
  have hT2 := hT1.below hb1
  have hB1 := hB.trans (hb1.mono hB.size)
  have d0 := bF1.c0
  have d1 := bF1.c1
  have d2 := bF1.c2
  have d3 := bF1.c3
  clear hF1 hT1 hb1 bF0 bR0 hB
  go_wp2_with fail
  refine (check_c n r t _ xs _ hT2 hF2).mono ?_
  rw [hck]
  rintro e w2 ⟨rfl, hb2⟩
  have bF2 := bF1.below hb2 (Nat.le_refl _)
  have bR2 := bR1.below hb2 (Nat.le_refl _)
  have hF3 := hF2.below hb2 (Nat.le_refl _)
  have hT3 := hT2.below hb2
  have hB2 := hB1.trans (hb2.mono hB1.size)
  have e0 := bF2.c0
  have e1 := bF2.c1
  clear hF2 hT2 hb2 bF1 bR1 hB1 d0 d1 d2 d3
  go_wp2_with fail
  refine (clone_c _ xs _ hF3 hpos).mono ?_
  rintro e w3 ⟨⟨g, cap', rfl, hg, hX⟩, hb3⟩
  have bF3 := bF2.below hb3 (Nat.le_refl _)
  have bR3 := bR2.below hb3 (Nat.le_refl _)
  have hT4 := hT3.below hb3
  have hB3 := hB2.trans (hb3.mono hB2.size)
  have hFlt := bF2.lt
  have hRlt := bR2.lt
  have f1 := bF3.c1
  have f1z := bF3.fz 1
  clear hF3 hT3 hb3 hB2 e0 e1 bF2 bR2
  go_wp2_with fail
  have bF4 := bF3.set1 (.slice (some ⟨g, 0, none⟩) xs.length cap')
  have bR4 := bR3.other ⟨w.heap.size, 1, none⟩ (.slice (some ⟨g, 0, none⟩) xs.length cap') (by simp)
  have hX4 := hX.setCell ⟨w.heap.size, 1, none⟩ (.slice (some ⟨g, 0, none⟩) xs.length cap') (by simp; omega)
  have hB4 : Below w.heap.size w (w3.setCell ⟨w.heap.size, 1, none⟩ (.slice (some ⟨g, 0, none⟩) xs.length cap')) := hB3.setCell (p := ⟨w.heap.size, 1, none⟩) (Nat.le_refl _) _
  clear f1 f1z bF3 bR3 hX hB3 hT4
  generalize w3.setCell ⟨w.heap.size, 1, none⟩ (.slice (some ⟨g, 0, none⟩) xs.length cap') = W4 at *
  have hT4 := hT.below hB4
  obtain ⟨rest, hG4', hcap'⟩ := hX4
  have hG4 : Hid (W4.heap[g]? = some (.cells (xs.map fl ++ rest).toArray 40 (0, 0))) := hG4'
  obtain ⟨cur, HCUR⟩ : ∃ cur, Hid (cur = xs.map fl ++ rest) := ⟨_, rfl⟩
  rw [← HCUR.out] at hG4
  obtain ⟨cs, HC⟩ : ∃ cs, Hid (cs = (l.drop i).map fl) := ⟨_, rfl⟩
  have hcl : Hid (cs.length = n + 1 - i) := by show _ = _; rw [HC.out, List.length_map, List.length_drop, HLL.out]
  have s1 : Hid (cs.length = Nat.min (l.length - i) (xs.length - p)) := by show _ = _; rw [hcl.out, HLL.out]; show _ = min _ _; omega
  have s2 : Hid (0 < cs.length → (some ⟨g, p, none⟩ : Option Addr) = some ⟨g, p, none⟩ ∧ ∃ ad, (some ⟨lb, loff + i, none⟩ : Option Addr) = some ad ∧ ∀ j v, cs[j]? = some v → W4.drew.cell? (ad.add j) = some v) := by
    intro _
    refine ⟨rfl, _, rfl, fun j v hj => ?_⟩
    rw [add_none]
    have hcl := hcl.out
    have hll := HLL.out
    have hj2 : j < cs.length := by
      by_cases h : j < cs.length
      · exact h
      · rw [List.getElem?_eq_none (by omega)] at hj; cases hj
    have hv : v = fl (l[i + j]?.getD 0) := by
      rw [HC.out] at hj
      simp only [List.getElem?_map, List.getElem?_drop] at hj
      have : i + j < l.length := by omega
      simp [this] at hj ⊢
      exact hj.symm
    have h := (hB4.cell (p := ⟨lb, loff + (i + j), none⟩) hlb).trans (HLCS.out (i + j) (by omega))
    rw [hv, Nat.add_assoc]
    exact h
  have s3 : Hid (p + cs.length ≤ cur.length) := by show _ ≤ _; rw [hcl.out, HCUR.out, List.length_append, List.length_map]; omega
  have s4 : Hid (∀ v ∈ cs, v.oneCell' = true) := by
    intro v hv
    rw [HC.out] at hv
    obtain ⟨x, _, rfl⟩ := List.mem_map.1 hv
    rfl
  have s5 : Hid (Below w2.heap.size W4 W4.drew) := (Below.refl _ _).drew
  have hinf : (Tryd.prog.info? 40).map (·.size) = some 1 := by kernel_rfl
  have hll := HLL.out
  have hi1 : (i : Int) ≤ (l.length : Int) := by omega
  have hi2 : ¬ lcap = i := by omega
  have hi3 : (p : Int) ≤ (xs.length : Int) := by omega
  have hi4 : ¬ cap' = p := by omega
  have f1 := bF4.c1
  clear hll
  go_region_law (refine step_copy_splice rfl (.tmp 41) (.tmp 44) 22 22 rfl 40 Tryd.underlying22 hinf (some ⟨g, p, none⟩) (some ⟨lb, loff + i, none⟩) (xs.length - p) (cap' - p) (l.length - i) (lcap - i) (by simp [Act.eval, Act.put]) (by simp [Act.eval, Act.put]) g p cur 40 hG4.out cs s1.out s2.out s3.out s4.out w2.heap.size W4 s5.out hg ?_; intro w5 hg5 hb5)
  have hG5 : RowX w5 g cap' (setN n xs i l) := by
    refine ⟨rest, ?_, by rw [set_length hn6 hin HL.out HLL.out]; exact hcap'⟩
    rw [hg5.out, HCUR.out, HC.out, ← HP.out, splice_set n i xs l rest hn6 hin HL.out HLL.out]
  have bF5 : FBox w5 w.heap.size n (.slice (some ⟨g, 0, none⟩) xs.length cap') r t := (hb5.block _ hFlt).trans bF4
  have bR5 : FBox w5 (w.heap.size + 1) 0 (.slice none 0 0) 0 0 := (hb5.block _ hRlt).trans bR4
  have hB5 : Below w.heap.size w w5 := hB4.trans (hb5.mono (Nat.le_of_lt hFlt))
  have hT5 := hT.below hB5
  have hF5 := hG5.fls (set_ok hF.1 hL.1) (by rw [set_length hn6 hin HL.out HLL.out]; exact hl)
  rw [set_length hn6 hin HL.out HLL.out] at hF5
  have g0 := bF5.c0
  have g1 := bF5.c1
  have g2 := bF5.c2
  have g3 := bF5.c3
  clear f1 s1 s2 s3 s4 s5 hi1 hi2 hi3 hi4 bF4 bR4 hB4 hT4 hg5 hb5 hG4 hG4' HCUR HC hcl hcap' hinf
  go_wp2_with fail
  refine (check_c n r t _ _ _ hT5 hF5).mono ?_
  rintro e w6 ⟨rfl, hb6⟩
  have bF6 := bF5.below hb6 (Nat.le_refl _)
  have bR6 := bR5.below hb6 (Nat.le_refl _)
  have hG6 := hG5.below hb6 (Nat.le_refl _)
  have hB6 := hB5.trans (hb6.mono hB5.size)
  have g0 := bF6.c0
  have g1 := bF6.c1
  have g2 := bF6.c2
  have g3 := bF6.c3
  have r0 := bR6.c0
  have r1 := bR6.c1
  have r2 := bR6.c2
  have r3 := bR6.c3
  have z0 := bR6.fz 0
  have z1 := bR6.fz 1
  have z2 := bR6.fz 2
  have z3 := bR6.fz 3
  clear hF5 hT5 hb6 bF5 bR5 hB5 hG5
  cases hc2 : checkB n (setN n xs i l) r t with
  | true =>
    go_wp2_with fail
    have bR7 := bR6.put n (.slice (some ⟨g, 0, none⟩) xs.length cap') r t
    have hB7 := putF_below hB6 (B := w.heap.size + 1) (by omega) n (.slice (some ⟨g, 0, none⟩) xs.length cap') r t
    have hG7 := hG6.putF (w.heap.size + 1) (by omega) n (.slice (some ⟨g, 0, none⟩) xs.length cap') r t
    unfold putF at bR7 hB7 hG7
    clear bR6 hB6 hG6 r0 r1 r2 r3 z0 z1 z2 z3 g0 g1 g2 g3 bF6
    generalize (((w6.setCell ⟨w.heap.size + 1, 0, none⟩ (.int .i64 (n : Int))).setCell ⟨w.heap.size + 1, 1, none⟩ (.slice (some ⟨g, 0, none⟩) xs.length cap')).setCell ⟨w.heap.size + 1, 2, none⟩ (.int .i64 r)).setCell ⟨w.heap.size + 1, 3, none⟩ (.int .i64 t) = W7 at *
    have k0 := bR7.c0
    have k1 := bR7.c1
    have k2 := bR7.c2
    have k3 := bR7.c3
    refine bodyPost_ret_by (v := .tuple #[fv (n : Int) (.slice (some ⟨g, 0, none⟩) xs.length cap') r t, .bool true]) ?_ rfl ⟨.inl ⟨hc2, g, cap', rfl, by omega, hG7⟩, hB7⟩
    simp [results, Tryd.f19, go_sem, k0, k1, k2, k3]
  | false =>
    go_wp2_with fail
    have bR7 := bR6.put 0 (.slice none 0 0) 0 0
    have hB7 := putF_below hB6 (B := w.heap.size + 1) (by omega) 0 (.slice none 0 0) 0 0
    unfold putF at bR7 hB7
    clear bR6 hB6 hG6 r0 r1 r2 r3 z0 z1 z2 z3 g0 g1 g2 g3 bF6
    generalize (((w6.setCell ⟨w.heap.size + 1, 0, none⟩ (.int .i64 0)).setCell ⟨w.heap.size + 1, 1, none⟩ (.slice none 0 0)).setCell ⟨w.heap.size + 1, 2, none⟩ (.int .i64 0)).setCell ⟨w.heap.size + 1, 3, none⟩ (.int .i64 0) = W7 at *
    have k0 := bR7.c0
    have k1 := bR7.c1
    have k2 := bR7.c2
    have k3 := bR7.c3
    refine bodyPost_ret_by (v := .tuple #[fv 0 (.slice none 0 0) 0 0, .bool false]) ?_ rfl ⟨.inr ⟨hc2, rfl⟩, hB7⟩
    simp [results, Tryd.f19, go_sem, k0, k1, k2, k3]
end Go.Proofs.YtaglfndhgdolfaaDoor
