/- slices.Clone at floats. -/
import Derived.Laws.AppendOwnNone
import Derived.Test.YtdccjlaneobldaaDoorOwn
namespace Go.Proofs.YtdccjlaneobldaaDoor
open Go.RowKit Go.Shelf

/-- A row of the call's own, its first floats known. -/
def RowX (W : World) (g cap : Nat) (xs : List Nat) : Prop := ∃ rest : List Value, W.heap[g]? = some (.cells (xs.map fl ++ rest).toArray 25 (0, 0)) ∧ xs.length + rest.length = cap

theorem RowX.fls {W : World} {g cap : Nat} {xs : List Nat} (h : RowX W g cap xs) (hok : okF xs) (hl : xs.length ≤ 1000) : Fls W (.slice (some ⟨g, 0, none⟩) xs.length cap) xs := by
  obtain ⟨rest, h', hc⟩ := h
  refine ⟨hok, hl, .inr ⟨g, 0, cap, rfl, by omega, fun j hj => ?_⟩⟩
  simp only [World.cell?, h', Nat.zero_add]
  rw [List.getElem?_toArray, List.getElem?_append_left (by simpa using hj)]
  simp [hj]

theorem built_own (w : World) : (w.alloc (.cells #[] 25)).ownsRow w.heap.size 25 1 (.slice (some ⟨w.heap.size, 0, none⟩) 0 0) 0 [] := by
  refine ⟨rfl, .inr ⟨w.heap.size, 0, #[], rfl, Nat.le_refl _, ?_, Nat.le_refl _, Nat.zero_le _, rfl, rfl⟩⟩
  unfold World.alloc
  simp only [Array.getElem?_push_size]

set_option maxRecDepth 100000 in
set_option maxHeartbeats 2000000 in
theorem clone_c (sv : Value) (xs : List Nat) (w : World) (hF : Fls w sv xs) (h0 : 0 < xs.length) :
    Calls Tryd.prog 26 #[sv] w fun e w' => (∃ g cap, e = .returned (.slice (some ⟨g, 0, none⟩) xs.length cap) ∧ w.heap.size ≤ g ∧ RowX w' g cap xs) ∧ Below w.heap.size w w' := by
  obtain ⟨i0, hi, hz0, hz1, hz2⟩ := info_parts Tryd.infoF
  have hl := hF.2.1
  obtain ⟨b, off, cap, rfl, hb, hcap, hcs⟩ := hF.cell h0
  have hnews : Hid (∀ j u, (xs.map fl)[j]? = some u → (w.alloc (.cells #[] 25)).cell? ((⟨b, off, none⟩ : Addr).add j) = some u) := by
    intro j u hu
    have hj : j < xs.length := by
      have := (List.getElem?_eq_some_iff.1 hu).1
      simpa using this
    rw [add_none, World.cell?_alloc_lt _ _ _ hb, hcs j hj, ← hu]
    simp [hj]
  have hone : Hid (∀ u ∈ xs.map fl, u.oneCell' = true) := by
    intro u hu
    obtain ⟨d, _, rfl⟩ := List.mem_map.1 hu
    rfl
  clear hcs
  have hnil : ∀ w', (binOp .eql 22 (.slice (some ⟨b, off, none⟩) xs.length cap) (.slice none 0 0)).run Tryd.prog w' = .ok (.bool false) w' := fun w' => Lib.run_eql_slice_nil w' _ _ _ _ _ _ _ Tryd.underlying22
  go_enter Tryd.func26, Tryd.ntmps26
  go_wp2_with (at_builtin; refine wpList_append_own _ rfl _ _ 22 rfl w.heap.size 25 i0 (.float .f64 0) 1 8 Tryd.underlying22 hi hz0 hz1 hz2 rfl (by decide) _ _ _ rfl (built_own w) ⟨b, off, none⟩ xs.length _ (xs.map fl) rfl (by simp) hnews.out hone.out (by unfold maxLen; omega) (by omega) (by simp) ?_; intro v' w1 hown' hgrow _)
  go_ret
  refine ⟨?_, Below.grown (Below.alloc (Below.refl _ w) (Nat.le_refl _) _) hgrow (by simp) (fun k e => by cases e; exact Nat.le_refl _)⟩
  rw [Nat.zero_add, List.nil_append] at hown'
  rcases hown'.2 with ⟨_, hn⟩ | ⟨g, cap', cur, rfl, hbg, hg, hn, hc, hs, ht⟩
  · omega
  · refine ⟨g, cap', rfl, hbg, cur.toList.drop xs.length, ?_, ?_⟩
    · rw [hg, ← ht, Nat.mul_one, List.take_append_drop]
    · have h5 : cur.toList.length = cur.size := Array.length_toList
      rw [List.length_drop]; omega
end Go.Proofs.YtdccjlaneobldaaDoor
