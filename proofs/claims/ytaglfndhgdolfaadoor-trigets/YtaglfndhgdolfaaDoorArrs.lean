/- A law's arguments: arrays of integers. -/
import Derived.Test.YtaglfndhgdolfaaDoorArgs
namespace Go.Proofs.YtaglfndhgdolfaaDoor
open Go.ChangeShapes Go.WideShapes Go.ChangeAt Go.RowKit Go.Shelf

theorem agg_of_cells {v : Value} {k : Nat} (h : v.cells.toList.length = k + 2) : ∃ cs : Array Value, v = .agg cs ∧ cs.size = k + 2 := by
  cases v <;> simp [Value.cells] at h ⊢
  exact h

theorem one_int {H : Type} {enc : TypeId × Value → H} {W : World} {base : Nat} {spare : Nat → Bool} {held : Bool} {fuel : Nat} {l : List Value} {x : DataW H × List MemPlace}
    (h : DataW.trod enc Tryd.prog W base spare held fuel 3 l = some x) : ∃ n, l = [.int .i64 n] := by
  obtain ⟨n, e, _, _⟩ := DataW.trod_int Tryd.underlying3 h
  exact ⟨n, e⟩

theorem Tryd.cellsInt : Tryd.prog.cellsOf 3 = 1 := by kernel_rfl

theorem open_arr3 {H : Type} {enc : TypeId × Value → H} {W : World} {base : Nat} {spare : Nat → Bool} {held : Bool} {v : Value} {d : DataW H} {p : List MemPlace}
    (h : DataW.Trod enc Tryd.prog W base spare held 25 v d p) : ∃ x y z, v = .agg #[.int .i64 x, .int .i64 y, .int .i64 z] := by
  obtain ⟨fuel, hf⟩ := h
  obtain ⟨xs, m, rfl, _, hlen, hn, hel⟩ := DataW.trod_array Tryd.underlying25 hf
  have c3 : Tryd.prog.cellsOf 25 = 3 := by kernel_rfl
  rw [c3] at hlen
  obtain ⟨cs, rfl, hs⟩ := agg_of_cells (k := 1) hlen
  obtain ⟨l⟩ := cs
  have h0 := hel 0 (by decide)
  have h1 := hel 1 (by decide)
  have h2 := hel 2 (by decide)
  rw [Tryd.cellsInt] at h0 h1 h2
  match xs, hn, l, hs with
  | [y0, y1, y2], _, [a, b, c], _ =>
    simp [Value.cells] at h0 h1 h2
    obtain ⟨x, e0⟩ := one_int h0
    obtain ⟨y, e1⟩ := one_int h1
    obtain ⟨z, e2⟩ := one_int h2
    simp at e0 e1 e2
    subst e0 e1 e2
    exact ⟨x, y, z, rfl⟩

theorem open_arr2 {H : Type} {enc : TypeId × Value → H} {W : World} {base : Nat} {spare : Nat → Bool} {held : Bool} {v : Value} {d : DataW H} {p : List MemPlace}
    (h : DataW.Trod enc Tryd.prog W base spare held 36 v d p) : ∃ x y, v = .agg #[.int .i64 x, .int .i64 y] := by
  obtain ⟨fuel, hf⟩ := h
  obtain ⟨xs, m, rfl, _, hlen, hn, hel⟩ := DataW.trod_array Tryd.underlying36 hf
  have c3 : Tryd.prog.cellsOf 36 = 2 := by kernel_rfl
  rw [c3] at hlen
  obtain ⟨cs, rfl, hs⟩ := agg_of_cells (k := 0) hlen
  obtain ⟨l⟩ := cs
  have h0 := hel 0 (by decide)
  have h1 := hel 1 (by decide)
  rw [Tryd.cellsInt] at h0 h1
  match xs, hn, l, hs with
  | [y0, y1], _, [a, b], _ =>
    simp [Value.cells] at h0 h1
    obtain ⟨x, e0⟩ := one_int h0
    obtain ⟨y, e1⟩ := one_int h1
    simp at e0 e1
    subst e0 e1
    exact ⟨x, y, rfl⟩
end Go.Proofs.YtaglfndhgdolfaaDoor
