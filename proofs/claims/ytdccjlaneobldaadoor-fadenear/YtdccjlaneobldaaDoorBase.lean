/- Floats in memory; the places of a triangle's rows. -/
import Derived.RangeFuncNested
import Derived.RangeFuncBound
import Derived.RangeFuncCalls
import Derived.RangeFuncLeaves
import Derived.RangeFuncBox
import Derived.Shelf.Abstract
import Derived.WalkKit
import Derived.WalkSpells
import Derived.OwnWalkIn
import Derived.TacticsInMore
import Derived.LoopNIn
import Derived.LoopIn
import Derived.WalkLawsBesides
import Derived.Test.YtdccjlaneobldaaDoorProg
namespace Go.Proofs.YtdccjlaneobldaaDoor
open Go.RowKit Go.Shelf

theorem lt_of_cell {W : World} {p : Addr} {v : Value} (h : W.cell? p = some v) : p.block < W.heap.size := by
  by_cases hb : p.block < W.heap.size
  · exact hb
  · exfalso
    have : W.heap[p.block]? = none := Array.getElem?_eq_none (by omega)
    simp [World.cell?, this] at h

/-- A float of these bits. -/
abbrev fl (x : Nat) : Value := .float .f64 x
def okF (xs : List Nat) : Prop := ∀ x ∈ xs, x < 18446744073709551616

/-- The slice value sv holds the floats of the bits xs. -/
def Fls (W : World) (sv : Value) (xs : List Nat) : Prop :=
  okF xs ∧ xs.length ≤ 1000 ∧ ((xs = [] ∧ ∃ a cap, sv = .slice a 0 cap) ∨ ∃ b off cap, sv = .slice (some ⟨b, off, none⟩) xs.length cap ∧ xs.length ≤ cap ∧
    ∀ j, j < xs.length → W.cell? ⟨b, off + j, none⟩ = some (fl (xs[j]?.getD 0)))

theorem Fls.below {W W' : World} {sv : Value} {xs : List Nat} {n : Nat} (h : Fls W sv xs) (hb : Below n W W') (hn : W.heap.size ≤ n) : Fls W' sv xs := by
  obtain ⟨h1, h2, h3⟩ := h
  refine ⟨h1, h2, ?_⟩
  rcases h3 with h3 | ⟨b, off, cap, e, hc, hj⟩
  · exact .inl h3
  · refine .inr ⟨b, off, cap, e, hc, fun j hl => ?_⟩
    have := lt_of_cell (hj j hl)
    exact (hb.cell (p := ⟨b, off + j, none⟩) (by simp at this ⊢; omega)).trans (hj j hl)
theorem okF_nil : okF [] := by intro x hx; cases hx
theorem Fls.empty (W : World) (a : Option Addr) (cap : Nat) : Fls W (.slice a 0 cap) [] := ⟨okF_nil, by simp, .inl ⟨rfl, a, cap, rfl⟩⟩
theorem Fls.nil (W : World) : Fls W (.slice none 0 0) [] := Fls.empty W none 0
theorem Fls.shape {W : World} {sv : Value} {xs : List Nat} (h : Fls W sv xs) : ∃ ao cap, sv = .slice ao xs.length cap ∧ xs.length ≤ cap := by
  obtain ⟨_, _, ⟨rfl, a, cap, e⟩ | ⟨b, off, cap, e, hc, _⟩⟩ := h
  · exact ⟨a, cap, e, Nat.zero_le _⟩
  · exact ⟨_, cap, e, hc⟩
theorem Fls.cell {W : World} {sv : Value} {xs : List Nat} (h : Fls W sv xs) (h0 : 0 < xs.length) : ∃ b off cap, sv = .slice (some ⟨b, off, none⟩) xs.length cap ∧ b < W.heap.size ∧ xs.length ≤ cap ∧ ∀ j, j < xs.length → W.cell? ⟨b, off + j, none⟩ = some (fl (xs[j]?.getD 0)) := by
  obtain ⟨_, _, ⟨rfl, _⟩ | ⟨b, off, cap, e, hc, hj⟩⟩ := h
  · simp at h0
  · exact ⟨b, off, cap, e, lt_of_cell (hj 0 h0), hc, hj⟩
theorem okF_getD {xs : List Nat} (h : okF xs) (j : Nat) : xs[j]?.getD 0 < 18446744073709551616 := by
  by_cases hj : j < xs.length
  · have := h xs[j] (List.getElem_mem hj); simpa [hj] using this
  · simp [List.getElem?_eq_none (show xs.length ≤ j by omega)]

/-- A cell of a new block. -/
theorem cell_new (w : World) (cs : Array Value) (t k : Nat) (v : Value) (h : cs[k]? = some v) : (w.alloc (.cells cs t)).cell? ⟨w.heap.size, k, none⟩ = some v := by
  simp only [World.cell?, World.alloc]
  simp [h]

/-- The first entry of math/bits' table is 0. -/
def Tab (W : World) : Prop := W.cell? ⟨1, 0, none⟩ = some (.int .u8 0)
theorem Tab.below {W W' : World} (h : Tab W) (hb : Below W.heap.size W W') : Tab W' := (hb.cell (p := ⟨1, 0, none⟩) (lt_of_cell h)).trans h

/-- Where row r of a triangle of n columns begins. -/
def place (n : Nat) : Nat → Nat
  | 0 => 0
  | r + 1 => place n r + (n + 1 - r)

/-- Rows and their first places, the first k. -/
def seqR (n k : Nat) : List (Nat × Nat) := (List.range k).map fun r => (r, place n r)
theorem seqR_succ (n k : Nat) : seqR n (k + 1) = seqR n k ++ [(k, place n k)] := by simp [seqR, List.range_succ]
theorem seqR_length (n k : Nat) : (seqR n k).length = k := by simp [seqR]
theorem seqR_mem {n k j : Nat} (h : j < k) : (j, place n j) ∈ seqR n k := by simp only [seqR, List.mem_map, List.mem_range]; exact ⟨j, h, rfl⟩

theorem place_le (n : Nat) : ∀ r, r ≤ n + 1 → place n r ≤ r * (n + 1) := by
  intro r
  induction r with
  | zero => intro _; simp [place]
  | succ r ih =>
    intro h
    have := ih (by omega)
    simp only [place]
    rw [Nat.add_mul]; omega
theorem place_small (n r : Nat) (hn : n ≤ 6) (hr : r ≤ n + 1) : place n r ≤ 49 := by
  have h1 := place_le n r hr
  have h2 : r * (n + 1) ≤ 7 * 7 := Nat.mul_le_mul (by omega) (by omega)
  omega

/-- What a round that goes on keeps: what lay below n₀, and the box of the number. -/
def KpB (n₀ Bs : Nat) (W W' : World) : Prop := Below n₀ W W' ∧ W'.cell? ⟨Bs, 0, none⟩ = W.cell? ⟨Bs, 0, none⟩
theorem KpB.refl (n₀ Bs : Nat) (W : World) : KpB n₀ Bs W W := ⟨Below.refl _ _, rfl⟩
theorem KpB_t {n₀ Bs : Nat} {A B C : World} (h : KpB n₀ Bs A B) (k : KpB n₀ Bs B C) : KpB n₀ Bs A C := ⟨h.1.trans k.1, k.2.trans h.2⟩
theorem KpB_b {n₀ Bs : Nat} {w : World} (hn : n₀ ≤ w.heap.size) (hBs : Bs < w.heap.size) (W : World) (l : Nat) (o o' : Obj) (hl : w.heap.size ≤ l) (h : W.heap[l]? = some o) (h1 : o.isCells = false) (h2 : o.isWalk = false) : KpB n₀ Bs W (W.putObj l o') :=
  ⟨belowK_b hn W l o o' hl h h1 h2, (belowK_b (Nat.le_refl _) W l o o' hl h h1 h2).cell (p := ⟨Bs, 0, none⟩) hBs⟩
theorem KpB.of_below {n₀ Bs m : Nat} {W W' : World} (h : Below m W W') (h1 : n₀ ≤ m) (h2 : Bs < m) : KpB n₀ Bs W W' := ⟨h.mono h1, h.cell (p := ⟨Bs, 0, none⟩) h2⟩

/-- A row and where it begins. -/
abbrev It (n : Nat) := { x : Nat × Nat // x.1 ≤ n ∧ place n x.1 = x.2 }

/-- The box of a value stays where nothing below turns. -/
theorem boxed_below {W W' : World} {B t n : Nat} {v : Value} (h : Boxed W B t v) (hb : Below n W W') (hn : W.heap.size ≤ n) : Boxed W' B t v := (hb.block B (by have := h.lt; omega)).trans h
end Go.Proofs.YtdccjlaneobldaaDoor
