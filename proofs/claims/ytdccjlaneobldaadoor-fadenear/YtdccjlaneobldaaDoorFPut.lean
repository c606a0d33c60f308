/- A factor stored in its box leaves every list of floats as it was. -/
import Derived.Test.YtdccjlaneobldaaDoorOften
namespace Go.Proofs.YtdccjlaneobldaaDoor
open Go.RowKit Go.Shelf Rnd

theorem cell_of_blk {W W' : World} {b off : Nat} (h : W'.heap[b]? = W.heap[b]?) : W'.cell? ⟨b, off, none⟩ = W.cell? ⟨b, off, none⟩ := by simp only [World.cell?, h]
theorem putF_blk (W : World) {B b : Nat} (h : b ≠ B) (c : Int) (sv : Value) (r t : Int) : (putF W B c sv r t).heap[b]? = W.heap[b]? := by
  unfold putF
  rw [Go.Deep.blk_setCell_other _ _ _ _ h, Go.Deep.blk_setCell_other _ _ _ _ h, Go.Deep.blk_setCell_other _ _ _ _ h, Go.Deep.blk_setCell_other _ _ _ _ h]
theorem Fls.ne {W : World} {B b off : Nat} {c r t : Int} {sv : Value} {a : Option Addr} {len cap : Nat} (hsv : sv = .slice a len cap) (hb : FBox W B c sv r t) {x : Nat} (h : W.cell? ⟨b, off, none⟩ = some (fl x)) : b ≠ B := by
  rintro rfl
  subst hsv
  have hb' : W.heap[b]? = some (fcells c (.slice a len cap) r t) := hb
  simp only [World.cell?, hb'] at h
  match off with
  | 0 => simp at h
  | 1 => simp at h
  | 2 => simp at h
  | 3 => simp at h
  | n + 4 => simp at h
theorem Fls.keep {W W' : World} {v : Value} {xs : List Nat} (h : Fls W v xs) {B : Nat} {c r t : Int} {a : Option Addr} {len cap : Nat} (hb : FBox W B c (.slice a len cap) r t) (hk : ∀ b, b ≠ B → W'.heap[b]? = W.heap[b]?) : Fls W' v xs := by
  obtain ⟨h1, h2, h3⟩ := h
  refine ⟨h1, h2, ?_⟩
  rcases h3 with h3 | ⟨b, off, cap', e, hc, hj⟩
  · exact .inl h3
  · refine .inr ⟨b, off, cap', e, hc, fun j hl => ?_⟩
    have hx := hj j hl
    have hne : b ≠ B := Fls.ne rfl hb hx
    rw [cell_of_blk (hk b hne)]
    exact hx
theorem Fls.putF {W : World} {v : Value} {xs : List Nat} (h : Fls W v xs) {B : Nat} {c r t : Int} {a : Option Addr} {len cap : Nat} (hb : FBox W B c (.slice a len cap) r t) (c' : Int) (sv' : Value) (r' t' : Int) : Fls (putF W B c' sv' r' t') v xs :=
  h.keep hb (fun _ hn => putF_blk W hn _ _ _ _)
theorem FBox.putO {W : World} {B C : Nat} {c r t : Int} {sv : Value} (h : FBox W C c sv r t) (hn : C ≠ B) (c' : Int) (sv' : Value) (r' t' : Int) : FBox (Go.Proofs.YtdccjlaneobldaaDoor.putF W B c' sv' r' t') C c sv r t := (putF_blk W hn _ _ _ _).trans h
theorem Tab.putF {W : World} (h : Tab W) {B : Nat} (hB : 1 < B) (c : Int) (sv : Value) (r t : Int) : Tab (Go.Proofs.YtdccjlaneobldaaDoor.putF W B c sv r t) := (cell_of_blk (putF_blk W (by omega) _ _ _ _)).trans h
end Go.Proofs.YtdccjlaneobldaaDoor
