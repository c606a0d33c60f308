/- tri.Line: a row of a factor, whole. -/
import Derived.Laws.CopyOwn
import Derived.Test.YtaglfndhgdolfaaDoorNew
namespace Go.Proofs.YtaglfndhgdolfaaDoor
open Go.RowKit Go.Shelf

/-- Row i of a triangle of n columns, whole. -/
def lineN (n : Nat) (xs : List Nat) (i : Nat) : List Nat := List.replicate i 0 ++ (xs.drop (place n i)).take (n + 1 - i)

theorem line_length {n i : Nat} {xs : List Nat} (h6 : n ≤ 6) (hi : i ≤ n) (hl : xs.length = (n + 1) * (n + 2) / 2) : (lineN n xs i).length = n + 1 := by
  have := place_in n h6 i hi
  simp [lineN]; omega
theorem line_ok {n i : Nat} {xs : List Nat} (h : okF xs) : okF (lineN n xs i) := by
  intro x hx
  rcases List.mem_append.1 hx with h1 | h1
  · have := List.eq_of_mem_replicate h1; omega
  · exact h x (List.mem_of_mem_drop (List.mem_of_mem_take h1))

theorem add_none (b o j : Nat) : ({ block := b, off := o, spot := none } : Addr).add j = ⟨b, o + j, none⟩ := by
  unfold Addr.add; split
  · next h => subst h; rfl
  · rfl

theorem splice_line (n i : Nat) (xs : List Nat) (h6 : n ≤ 6) (hi : i ≤ n) (hl : xs.length = (n + 1) * (n + 2) / 2) :
    splice ((List.replicate (n + 1) 0).map fl) i (((xs.drop (place n i)).take (n + 1 - i)).map fl) = (lineN n xs i).map fl := by
  have := place_in n h6 i hi
  have h2 : (((xs.drop (place n i)).take (n + 1 - i)).map fl).length = n + 1 - i := by simp; omega
  unfold splice lineN
  have h3 : (List.map fl (List.replicate (n + 1) 0)).drop (i + (n + 1 - i)) = [] := List.drop_eq_nil_of_le (by simp; omega)
  rw [h2, h3, List.append_nil, List.map_append, ← List.map_take, List.take_replicate, show min i (n + 1) = i from by omega]

set_option maxRecDepth 100000 in
set_option maxHeartbeats 2000000 in
theorem line_yes (n i : Nat) (r t : Int) (sv : Value) (xs : List Nat) (w : World) (hT : Tab w) (hF : Fls w sv xs) (hck : checkB n xs r t = true) (hin : i ≤ n) :
    Calls Tryd.prog 25 #[fv n sv r t, .int .i64 (i : Int)] w fun e w' => (∃ g, e = .returned (.slice (some ⟨g, 0, none⟩) (n + 1) (n + 1)) ∧ w.heap.size ≤ g ∧ RowF w' g (lineN n xs i)) ∧ Below w.heap.size w w' := by
  obtain ⟨n', hn', hn1, hn6, hlen⟩ := check_len hck
  obtain rfl : n = n' := by omega
  have hl := hF.2.1
  have hpi := place_in n hn6 i hin
  have hpos : 0 < xs.length := by omega
  obtain ⟨b, off, cap, rfl, hb, hcap, hcs⟩ := hF.cell hpos
  have hB : Below w.heap.size w (w.alloc (fcells n (.slice (some ⟨b, off, none⟩) xs.length cap) r t)) := (Below.refl _ w).alloc (Nat.le_refl _) _
  have cA : (w.alloc (fcells n (.slice (some ⟨b, off, none⟩) xs.length cap) r t)).heap.size = w.heap.size + 1 := World.size_alloc _ _
  have c0 := cell_new w #[.int .i64 n, .slice (some ⟨b, off, none⟩) xs.length cap, .int .i64 r, .int .i64 t] 24 0 (.int .i64 n) rfl
  have c1 := cell_new w #[.int .i64 n, .slice (some ⟨b, off, none⟩) xs.length cap, .int .i64 r, .int .i64 t] 24 1 (.slice (some ⟨b, off, none⟩) xs.length cap) rfl
  have c2 := cell_new w #[.int .i64 n, .slice (some ⟨b, off, none⟩) xs.length cap, .int .i64 r, .int .i64 t] 24 2 (.int .i64 r) rfl
  have c3 := cell_new w #[.int .i64 n, .slice (some ⟨b, off, none⟩) xs.length cap, .int .i64 r, .int .i64 t] 24 3 (.int .i64 t) rfl
  have hF1 := hF.below hB (Nat.le_refl _)
  have hT1 := hT.below hB
  have hlt : w.heap.size < (w.alloc (fcells n (.slice (some ⟨b, off, none⟩) xs.length cap) r t)).heap.size := by omega
  obtain ⟨p, HP⟩ : ∃ p, Hid (place n i = p) := ⟨_, rfl⟩
  rw [HP.out] at hpi
  have HL : Hid (xs.length = (n + 1) * (n + 2) / 2) := hlen
  rw [← hlen] at hpi
  have HCS : Hid (∀ j, j < xs.length → w.cell? ⟨b, off + j, none⟩ = some (fl (xs[j]?.getD 0))) := hcs
  clear hlen hn' hcs
  obtain ⟨Zl, HZ⟩ : ∃ Zl, Hid (Zl = (List.replicate (n + 1) 0).map fl) := ⟨_, rfl⟩
  have hmk := run_make_row' (P := Tryd.prog) 22 40 (.float .f64 0) 8 Tryd.underlying22 Tryd.infoF rfl .i64 .i64 (n + 1) (by omega) (by omega)
  rw [made_fl, ← HZ.out] at hmk
  have ec : ((n + 1 : Nat) : Int) = (n : Int) + 1 := by omega
  rw [ec] at hmk
  clear ec
  obtain ⟨cs, HC⟩ : ∃ cs, Hid (cs = ((xs.drop (place n i)).take (n + 1 - i)).map fl) := ⟨_, rfl⟩
  go_enter Tryd.func25, Tryd.ntmps25
  go_wp2_with fail
  refine (at_yes n i i _ hn1 hn6 (Nat.le_refl _) hin).mono ?_
  rw [Nat.sub_self, Nat.add_zero, HP.out]
  rintro e w1 ⟨rfl, hb1⟩
  have d0 := (hb1.cell (p := ⟨w.heap.size, 0, none⟩) hlt).trans c0
  have d1 := (hb1.cell (p := ⟨w.heap.size, 1, none⟩) hlt).trans c1
  have d2 := (hb1.cell (p := ⟨w.heap.size, 2, none⟩) hlt).trans c2
  have d3 := (hb1.cell (p := ⟨w.heap.size, 3, none⟩) hlt).trans c3
  have hF2 := hF1.below hb1 (Nat.le_refl _)
  have hT2 := hT1.below hb1
  have hB1 := hB.trans (hb1.mono hB.size)
  clear hF1 hT1 c0 c1 c2 c3 hb1
  go_wp2_with fail
  refine (check_c n r t _ xs _ hT2 hF2).mono ?_
  rw [hck]
  rintro e w2 ⟨rfl, hb2⟩
  have hlt1 : w.heap.size < w1.heap.size := lt_of_cell d0
  have e0 := (hb2.cell (p := ⟨w.heap.size, 0, none⟩) hlt1).trans d0
  have e1 := (hb2.cell (p := ⟨w.heap.size, 1, none⟩) hlt1).trans d1
  have hB2 := hB1.trans (hb2.mono hB1.size)
  have hlt2 : w.heap.size < w2.heap.size := lt_of_cell e0
  have hsz := hB2.size
  clear hF2 d0 d1 d2 d3 hb2 hT2 hB1 hlt1
  go_wp2_with fail
  have hG3 : Hid ((w2.alloc (.cells Zl.toArray 40)).heap[w2.heap.size]? = some (.cells Zl.toArray 40 (0, 0))) := Go.Deep.blk_alloc_new _ _
  have hB3 : Below w.heap.size w (w2.alloc (.cells Zl.toArray 40)) := hB2.alloc hsz _
  have f1 : (w2.alloc (.cells Zl.toArray 40)).cell? ⟨w.heap.size, 1, none⟩ = some (.slice (some ⟨b, off, none⟩) xs.length cap) := (((Below.refl w2.heap.size w2).alloc (Nat.le_refl _) _).cell (p := ⟨w.heap.size, 1, none⟩) hlt2).trans e1
  have hG : w.heap.size ≤ w2.heap.size := hsz
  clear e0 e1 hB2 hlt2 hsz
  generalize w2.alloc (.cells Zl.toArray 40) = W3 at *
  generalize w2.heap.size = g at *
  have s1 : Hid (cs.length = Nat.min (xs.length - p) (n + 1 - i)) := by show _ = _; rw [HC.out, HP.out, List.length_map, List.length_take, List.length_drop, Nat.min_comm]
  have hcl : Hid (cs.length = n + 1 - i) := by show _ = _; rw [s1.out]; show min _ _ = _; omega
  have s2 : Hid (0 < cs.length → (some ⟨g, i, none⟩ : Option Addr) = some ⟨g, i, none⟩ ∧ ∃ ad, (some ⟨b, off + p, none⟩ : Option Addr) = some ad ∧ ∀ j v, cs[j]? = some v → W3.drew.cell? (ad.add j) = some v) := by
    intro _
    refine ⟨rfl, _, rfl, fun j v hj => ?_⟩
    rw [add_none]
    have hcl := hcl.out
    have hj2 : j < cs.length := by
      by_cases h : j < cs.length
      · exact h
      · rw [List.getElem?_eq_none (by omega)] at hj; cases hj
    have hv : v = fl (xs[p + j]?.getD 0) := by
      rw [HC.out, HP.out] at hj
      simp only [List.getElem?_map, List.getElem?_take, List.getElem?_drop] at hj
      rw [if_pos (by omega)] at hj
      have : p + j < xs.length := by omega
      simp [this] at hj ⊢
      exact hj.symm
    have h := (hB3.cell (p := ⟨b, off + (p + j), none⟩) hb).trans (HCS.out (p + j) (by omega))
    rw [hv, Nat.add_assoc]
    exact h
  have s3 : Hid (i + cs.length ≤ Zl.length) := by show _ ≤ _; rw [hcl.out, HZ.out, List.length_map, List.length_replicate]; omega
  have s4 : Hid (∀ v ∈ cs, v.oneCell' = true) := by
    intro v hv
    rw [HC.out] at hv
    obtain ⟨x, _, rfl⟩ := List.mem_map.1 hv
    rfl
  have s5 : Hid (Below w.heap.size w W3.drew) := hB3.drew
  have hinf : (Tryd.prog.info? 40).map (·.size) = some 1 := by kernel_rfl
  have hi1 : (i : Int) ≤ (n : Int) + 1 := by omega
  have hi2 : ¬ n + 1 = i := by omega
  have hi3 : (p : Int) ≤ (xs.length : Int) := by omega
  have hi4 : ¬ cap = p := by omega
  go_region_law (refine step_copy_splice rfl (.tmp 29) (.tmp 33) 22 22 rfl 40 Tryd.underlying22 hinf (some ⟨g, i, none⟩) (some ⟨b, off + p, none⟩) (n + 1 - i) (n + 1 - i) (xs.length - p) (cap - p) (by simp [Act.eval, Act.put]) (by simp [Act.eval, Act.put]) g i Zl 40 hG3.out cs s1.out s2.out s3.out s4.out w.heap.size w s5.out hG ?_; intro w4 hg4 hb4)
  go_wp2
  go_ret
  refine ⟨⟨g, rfl, hG, ?_⟩, hb4⟩
  show _ = _
  rw [hg4.out, HZ.out, HC.out, splice_line n i xs hn6 hin HL.out]
end Go.Proofs.YtaglfndhgdolfaaDoor
