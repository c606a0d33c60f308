/- Rows of floats that a call made itself; what the type of a float is. -/
import Derived.Deep.OwnRows
import Derived.Test.YtbkmpoeaindnaaaDoorCheck
namespace Go.Proofs.YtbkmpoeaindnaaaDoor
open Go.RowKit Go.Shelf

theorem Tryd.infoF : (Tryd.prog.info? 26).map (fun i => (i.zero, i.size, i.bytes)) = some (some (.float .f64 0), 1, 8) := by kernel_rfl

/-- A row of floats that the call itself made, whole. -/
def RowF (W : World) (g : Nat) (xs : List Nat) : Prop := W.heap[g]? = some (.cells (xs.map fl).toArray 26 (0, 0))

theorem RowF.fls {W : World} {g : Nat} {xs : List Nat} (h : RowF W g xs) (hok : okF xs) (hl : xs.length ≤ 1000) : Fls W (.slice (some ⟨g, 0, none⟩) xs.length xs.length) xs := by
  refine ⟨hok, hl, .inr ⟨g, 0, xs.length, rfl, Nat.le_refl _, fun j hj => ?_⟩⟩
  have h' : W.heap[g]? = some (.cells (xs.map fl).toArray 26 (0, 0)) := h
  simp only [World.cell?, h', Nat.zero_add]
  simp [hj]

theorem add_none (b o j : Nat) : ({ block := b, off := o, spot := none } : Addr).add j = ⟨b, o + j, none⟩ := by
  unfold Addr.add; split
  · next h => subst h; rfl
  · rfl

/-- What stands at a place of a factor. -/
def getN (c : Int) (xs : List Nat) (r t i j : Int) : Nat :=
  if inTri c i j ∧ checkB c xs r t = true then xs[place c.toNat i.toNat + (j.toNat - i.toNat)]?.getD 0 else 0

theorem check_len {c r t : Int} {xs : List Nat} (h : checkB c xs r t = true) : ∃ n : Nat, c = (n : Int) ∧ 1 ≤ n ∧ n ≤ 6 ∧ xs.length = (n + 1) * (n + 2) / 2 := by
  unfold checkB at h
  simp only [Bool.and_eq_true] at h
  exact shapeB_len h.2.1

theorem inTri_nat {c i j : Int} (h : inTri c i j) : ∃ n a b : Nat, c = (n : Int) ∧ i = (a : Int) ∧ j = (b : Int) ∧ 1 ≤ n ∧ n ≤ 6 ∧ a ≤ b ∧ b ≤ n := by
  obtain ⟨⟨h1, h2⟩, h3, h4, h5⟩ := h
  exact ⟨c.toNat, i.toNat, j.toNat, by omega, by omega, by omega, by omega, by omega, by omega, by omega⟩

end Go.Proofs.YtbkmpoeaindnaaaDoor
