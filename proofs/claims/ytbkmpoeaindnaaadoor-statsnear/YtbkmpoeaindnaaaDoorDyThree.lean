/- Dyads in boxes, in other units; what is small enough to be counted with. -/
import Derived.Test.YtbkmpoeaindnaaaDoorDyTwo
import Derived.Test.YtbkmpoeaindnaaaDoorDyOne
import Derived.Test.YtbkmpoeaindnaaaDoorFlo
namespace Go.Proofs.YtbkmpoeaindnaaaDoor.N
open Go.RowKit Go.Shelf Rnd

theorem Dy.unit {W : World} {neg : Bool} {nv : Value} {e z g g' : Int} (h : Dy W neg nv e z g) (hg : g' ≤ g) : Dy W neg nv e (z * ((2 ^ (g - g').toNat : Nat) : Int)) g' := by
  obtain ⟨ds, h1, h2, h3⟩ := h
  refine ⟨ds, h1, h2, ?_⟩
  rcases h3 with ⟨rfl, rfl, rfl, rfl⟩ | ⟨ho, he1, he2, hge, rfl⟩
  · exact .inl ⟨rfl, rfl, rfl, Int.zero_mul _⟩
  · refine .inr ⟨ho, he1, he2, by omega, ?_⟩
    have e1 : val ds * 2 ^ (e - g').toNat = val ds * 2 ^ (e - g).toNat * 2 ^ (g - g').toNat := by
      rw [Nat.mul_assoc, ← Nat.pow_add]
      congr 2
      omega
    rw [e1]
    unfold sgn
    cases neg
    · simp only [Bool.false_eq_true, if_false]
      exact (Int.natCast_mul (val ds * 2 ^ (e - g).toNat) _).symm
    · simp only [if_true]
      rw [Int.neg_mul]
      exact congrArg Neg.neg (Int.natCast_mul (val ds * 2 ^ (e - g).toNat) _).symm
theorem mul_lt_pow {a b x y : Nat} (ha : a < 2 ^ x) (hb : b < 2 ^ y) : a * b < 2 ^ (x + y) := by
  rw [Nat.pow_add]
  exact Nat.mul_lt_mul'' ha hb
theorem lt_big {n k : Nat} (h : n < 2 ^ k) (hk : k ≤ 32 * bigK) : n < BIG := by
  rw [big_eq]
  exact Nat.lt_of_lt_of_le h (Nat.pow_le_pow_right (by omega) hk)
theorem pw_lt {k n : Nat} (h : k < n) : pw k < 2 ^ n := Nat.pow_lt_pow_right (by omega) h
theorem pw_big {k : Nat} (h : k < 19200) : pw k < BIG := by
  rw [big_eq]
  exact pw_lt (by have := bigK_eq; omega)
theorem one_big : 1 < BIG := Nat.lt_of_le_of_lt (pow_pos2 7) (pw_big (k := 7) (by decide))
theorem pow_pw {k g : Int} {n : Nat} (h : (k - g).toNat = n) : 2 ^ (k - g).toNat = pw n := by rw [h]; rfl
theorem add_lt_pow {a b x : Nat} (ha : a < 2 ^ x) (hb : b < 2 ^ x) : a + b < 2 ^ (x + 1) := by
  rw [Nat.pow_succ]
  omega
/-- A dyad in a box, for a walk. -/
structure DX (W : World) (B : Nat) (n : Bool) (v : Value) (e z g : Int) : Prop where
  x : DBox W B n v e
  d : Dy W n v e z g
theorem DX.below {W W' : World} {B : Nat} {n : Bool} {v : Value} {e z g : Int} (h : DX W B n v e z g) (hb : Below W.heap.size W W') : DX W' B n v e z g := ⟨h.x.below hb h.x.lt, h.d.below hb (Nat.le_refl _)⟩
theorem DX.new {w : World} {n : Bool} {v : Value} {e z g : Int} (h : Dy w n v e z g) : DX (w.alloc (dcells n v e)) w.heap.size n v e z g := ⟨DBox.new _ _ _ _, h.below ((Below.refl _ w).alloc (Nat.le_refl _) _) (Nat.le_refl _)⟩
/-- A finite word's units are small. -/
theorem uv_small2 {x : Nat} (h : x < 9218868437227405312) : uv x < 2 ^ 2098 := by
  have e := uv_pow 2046
  have e1 : (2046 + 1) * 2 ^ 52 = 9218868437227405312 := by decide
  have e2 : 52 + 2046 = 2098 := by decide
  rw [e1, e2] at e
  have := uv_mono h
  rw [e] at this
  exact this
theorem lt_pow_of {x a b : Nat} (h : x < 2 ^ a) (hab : a ≤ b) : x < 2 ^ b := Nat.lt_of_lt_of_le h (Nat.pow_le_pow_right (by decide) hab)
theorem uv_small3 {x u : Nat} (h : x < 9218868437227405312) (hu : 2098 ≤ u) : uv x < 2 ^ u := by
  have e1 : (2046 + 1) * 2 ^ 52 = 9218868437227405312 := by decide
  have h1 := uv_mono h
  rw [← e1, uv_pow 2046] at h1
  exact lt_pow_of h1 (by omega)
theorem ordN_le {a b : Nat} (h : a ≤ b) : ordN a b ≤ 0 := by
  unfold ordN
  split
  · decide
  · split
    · omega
    · decide
end Go.Proofs.YtbkmpoeaindnaaaDoor.N

/- What the texts of Gram lists want of the elder text of that name. -/
