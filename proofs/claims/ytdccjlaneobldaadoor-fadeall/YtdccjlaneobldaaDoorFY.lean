/- A factor in a box with its entries, for the laws' walks. -/
import Derived.Test.YtdccjlaneobldaaDoorFPut
namespace Go.Proofs.YtdccjlaneobldaaDoor
open Go.RowKit Go.Shelf Rnd

structure FY (W : World) (B : Nat) (c r t : Int) (sv : Value) (xs : List Nat) : Prop where
  x : FBox W B c sv r t
  f : Fls W sv xs
theorem FY.below {W W' : World} {B : Nat} {c r t : Int} {sv : Value} {xs : List Nat} (h : FY W B c r t sv xs) (hb : Below W.heap.size W W') : FY W' B c r t sv xs := ⟨h.x.below hb (Nat.le_refl _), h.f.below hb (Nat.le_refl _)⟩
theorem FY.new {w : World} {sv : Value} {xs : List Nat} (h : Fls w sv xs) (c r t : Int) : FY (w.alloc (fcells c sv r t)) w.heap.size c r t sv xs := ⟨FBox.new _ _ _ _ _, h.below ((Below.refl _ w).alloc (Nat.le_refl _) _) (Nat.le_refl _)⟩
theorem bal (w : World) (o : Obj) : Below w.heap.size w (w.alloc o) := (Below.refl _ w).alloc (Nat.le_refl _) o
theorem bal2 {w W W' : World} (h : Below w.heap.size w W) (hb : Below W.heap.size W W') (o : Obj) : Below w.heap.size w (W'.alloc o) := (h.trans (hb.mono h.size)).trans ((bal W' o).mono (h.trans (hb.mono h.size)).size)
theorem FY.step {W W' : World} {B : Nat} {c r t : Int} {sv : Value} {xs : List Nat} (h : FY W B c r t sv xs) (hb : Below W.heap.size W W') (o : Obj) : FY (W'.alloc o) B c r t sv xs := (h.below hb).below (bal W' o)
end Go.Proofs.YtdccjlaneobldaaDoor
