/- A factor in a box. -/
import Derived.Test.YtdccjlaneobldaaDoorClone
namespace Go.Proofs.YtdccjlaneobldaaDoor
open Go.RowKit Go.Shelf

def FBox (W : World) (B : Nat) (c : Int) (sv : Value) (r t : Int) : Prop := W.heap[B]? = some (fcells c sv r t)
theorem FBox.lt {W : World} {B : Nat} {c r t : Int} {sv : Value} (h : FBox W B c sv r t) : B < W.heap.size := (Array.getElem?_eq_some_iff.1 h).1
theorem FBox.below {W W' : World} {B n : Nat} {c r t : Int} {sv : Value} (h : FBox W B c sv r t) (hb : Below n W W') (hn : W.heap.size ≤ n) : FBox W' B c sv r t := (hb.block B (by have := h.lt; omega)).trans h
theorem FBox.c0 {W : World} {B : Nat} {c r t : Int} {sv : Value} (h : FBox W B c sv r t) : W.cell? ⟨B, 0, none⟩ = some (.int .i64 c) := by simp [World.cell?, show W.heap[B]? = _ from h]
theorem FBox.c1 {W : World} {B : Nat} {c r t : Int} {sv : Value} (h : FBox W B c sv r t) : W.cell? ⟨B, 1, none⟩ = some sv := by simp [World.cell?, show W.heap[B]? = _ from h]
theorem FBox.c2 {W : World} {B : Nat} {c r t : Int} {sv : Value} (h : FBox W B c sv r t) : W.cell? ⟨B, 2, none⟩ = some (.int .i64 r) := by simp [World.cell?, show W.heap[B]? = _ from h]
theorem FBox.c3 {W : World} {B : Nat} {c r t : Int} {sv : Value} (h : FBox W B c sv r t) : W.cell? ⟨B, 3, none⟩ = some (.int .i64 t) := by simp [World.cell?, show W.heap[B]? = _ from h]
theorem FBox.fz {W : World} {B : Nat} {c r t : Int} {sv : Value} (h : FBox W B c sv r t) (k : Nat) : W.frozen? ⟨B, k, none⟩ = false := by simp [World.frozen?, show W.heap[B]? = _ from h]
theorem FBox.new (w : World) (c : Int) (sv : Value) (r t : Int) : FBox (w.alloc (fcells c sv r t)) w.heap.size c sv r t := Go.Deep.blk_alloc_new _ _
theorem FBox.set1 {W : World} {B : Nat} {c r t : Int} {sv : Value} (h : FBox W B c sv r t) (v : Value) : FBox (W.setCell ⟨B, 1, none⟩ v) B c v r t := by
  obtain ⟨hlt, hk⟩ := Array.getElem?_eq_some_iff.1 h
  show (W.heap.modify B _)[B]? = _
  rw [Array.getElem?_eq_getElem (by rw [Array.size_modify]; exact hlt), Array.getElem_modify_self, hk]
  rfl
theorem FBox.set0 {W : World} {B : Nat} {c r t : Int} {sv : Value} (h : FBox W B c sv r t) (v : Int) : FBox (W.setCell ⟨B, 0, none⟩ (.int .i64 v)) B v sv r t := by
  obtain ⟨hlt, hk⟩ := Array.getElem?_eq_some_iff.1 h
  show (W.heap.modify B _)[B]? = _
  rw [Array.getElem?_eq_getElem (by rw [Array.size_modify]; exact hlt), Array.getElem_modify_self, hk]
  rfl
theorem FBox.set2 {W : World} {B : Nat} {c r t : Int} {sv : Value} (h : FBox W B c sv r t) (v : Int) : FBox (W.setCell ⟨B, 2, none⟩ (.int .i64 v)) B c sv v t := by
  obtain ⟨hlt, hk⟩ := Array.getElem?_eq_some_iff.1 h
  show (W.heap.modify B _)[B]? = _
  rw [Array.getElem?_eq_getElem (by rw [Array.size_modify]; exact hlt), Array.getElem_modify_self, hk]
  rfl
theorem FBox.set3 {W : World} {B : Nat} {c r t : Int} {sv : Value} (h : FBox W B c sv r t) (v : Int) : FBox (W.setCell ⟨B, 3, none⟩ (.int .i64 v)) B c sv r v := by
  obtain ⟨hlt, hk⟩ := Array.getElem?_eq_some_iff.1 h
  show (W.heap.modify B _)[B]? = _
  rw [Array.getElem?_eq_getElem (by rw [Array.size_modify]; exact hlt), Array.getElem_modify_self, hk]
  rfl
/-- A factor stored over another one. -/
def putF (W : World) (B : Nat) (c : Int) (sv : Value) (r t : Int) : World := (((W.setCell ⟨B, 0, none⟩ (.int .i64 c)).setCell ⟨B, 1, none⟩ sv).setCell ⟨B, 2, none⟩ (.int .i64 r)).setCell ⟨B, 3, none⟩ (.int .i64 t)
theorem FBox.put {W : World} {B : Nat} {c r t : Int} {sv : Value} (h : FBox W B c sv r t) (c' : Int) (sv' : Value) (r' t' : Int) : FBox (putF W B c' sv' r' t') B c' sv' r' t' := (((h.set0 c').set1 sv').set2 r').set3 t'
theorem putF_below {W0 W : World} {B n : Nat} (h : Below n W0 W) (hB : n ≤ B) (c : Int) (sv : Value) (r t : Int) : Below n W0 (putF W B c sv r t) := (((h.setCell (p := ⟨B, 0, none⟩) hB _).setCell (p := ⟨B, 1, none⟩) hB _).setCell (p := ⟨B, 2, none⟩) hB _).setCell (p := ⟨B, 3, none⟩) hB _
theorem FBox.other {W : World} {B : Nat} {c r t : Int} {sv : Value} (h : FBox W B c sv r t) (p : Addr) (v : Value) (hp : p.block ≠ B) : FBox (W.setCell p v) B c sv r t := (Go.Deep.blk_setCell_other W p v B (fun e => hp e.symm)).trans h
theorem RowX.below {W W' : World} {g cap n : Nat} {xs : List Nat} (h : RowX W g cap xs) (hb : Below n W W') (hn : W.heap.size ≤ n) : RowX W' g cap xs := by
  obtain ⟨rest, h1, h2⟩ := h
  exact ⟨rest, (hb.block g (by have := (Array.getElem?_eq_some_iff.1 h1).1; omega)).trans h1, h2⟩
theorem RowX.setCell {W : World} {g cap : Nat} {xs : List Nat} (h : RowX W g cap xs) (p : Addr) (v : Value) (hp : p.block ≠ g) : RowX (W.setCell p v) g cap xs := by
  obtain ⟨rest, h1, h2⟩ := h
  exact ⟨rest, (Go.Deep.blk_setCell_other W p v g (fun e => hp e.symm)).trans h1, h2⟩
theorem RowX.putF {W : World} {g cap : Nat} {xs : List Nat} (h : RowX W g cap xs) (B : Nat) (hp : B ≠ g) (c : Int) (sv : Value) (r t : Int) : RowX (putF W B c sv r t) g cap xs :=
  (((h.setCell ⟨B, 0, none⟩ _ hp).setCell ⟨B, 1, none⟩ _ hp).setCell ⟨B, 2, none⟩ _ hp).setCell ⟨B, 3, none⟩ _ hp
theorem RowX.lt {W : World} {g cap : Nat} {xs : List Nat} (h : RowX W g cap xs) : g < W.heap.size := by
  obtain ⟨rest, h1, h2⟩ := h
  exact (Array.getElem?_eq_some_iff.1 h1).1
end Go.Proofs.YtdccjlaneobldaaDoor
