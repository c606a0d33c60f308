/- Plain mathematics of digits to the base 2^32: their number, numbers without zeros at their end. Nothing of the program. -/
import Derived.KernelRfl
namespace Go.Proofs.Ytceonncbflmciaa

/-- The number of digits, the lowest first. -/
def val : List Nat → Nat
  | [] => 0
  | d :: r => d + 4294967296 * val r

def small (l : List Nat) : Prop := ∀ d, d ∈ l → d < 4294967296

/-- How many digits there are, but for zeros at the end. -/
def sizeL : List Nat → Nat
  | [] => 0
  | d :: r => if sizeL r = 0 then (if d = 0 then 0 else 1) else sizeL r + 1

def trimL (l : List Nat) : List Nat := l.take (sizeL l)

/-- No zero at the end. -/
def norm (l : List Nat) : Prop := sizeL l = l.length

theorem small_nil : small [] := by intro d h; cases h
theorem small_cons {d : Nat} {r : List Nat} : small (d :: r) ↔ d < 4294967296 ∧ small r := by
  simp [small]
theorem small_append {a b : List Nat} : small (a ++ b) ↔ small a ∧ small b := by
  simp only [small, List.mem_append]
  exact ⟨fun h => ⟨fun d hd => h d (.inl hd), fun d hd => h d (.inr hd)⟩, fun h d hd => hd.elim (h.1 d) (h.2 d)⟩
theorem small_take {l : List Nat} (k : Nat) (h : small l) : small (l.take k) := fun d hd => h d (List.mem_of_mem_take hd)
theorem small_drop {l : List Nat} (k : Nat) (h : small l) : small (l.drop k) := fun d hd => h d (List.mem_of_mem_drop hd)
theorem small_getD {l : List Nat} (h : small l) (i : Nat) : l[i]?.getD 0 < 4294967296 := by
  by_cases hi : i < l.length
  · simp [hi]; exact h _ (List.getElem_mem hi)
  · simp [List.getElem?_eq_none (by omega : l.length ≤ i)]
theorem small_set {l : List Nat} (h : small l) (i x : Nat) (hx : x < 4294967296) : small (l.set i x) := by
  intro d hd
  rcases List.mem_or_eq_of_mem_set hd with h1 | h1
  · exact h d h1
  · omega
theorem small_replicate (k : Nat) : small (List.replicate k 0) := by
  intro d hd; have := List.eq_of_mem_replicate hd; omega

theorem sizeL_le (l : List Nat) : sizeL l ≤ l.length := by
  induction l with
  | nil => simp [sizeL]
  | cons d r ih => simp only [sizeL, List.length_cons]; split <;> (try split) <;> omega

theorem sizeL_zero (l : List Nat) : ∀ i : Nat, sizeL l ≤ i → l[i]?.getD 0 = 0 := by
  induction l with
  | nil => simp
  | cons d r ih =>
    intro i hi
    simp only [sizeL] at hi
    cases i with
    | zero =>
      split at hi
      · split at hi
        · simpa
        · omega
      · omega
    | succ i =>
      have : sizeL r ≤ i := by
        split at hi
        · omega
        · omega
      simpa using ih i this

theorem sizeL_top (l : List Nat) : 0 < sizeL l → l[sizeL l - 1]?.getD 0 ≠ 0 := by
  induction l with
  | nil => simp [sizeL]
  | cons d r ih =>
    intro h
    simp only [sizeL] at h ⊢
    by_cases hr : sizeL r = 0
    · simp only [hr, if_true] at h ⊢
      by_cases hd : d = 0
      · simp [hd] at h
      · simp [hd]
    · simp only [hr, if_false] at h ⊢
      have := ih (by omega)
      rw [show sizeL r + 1 - 1 = (sizeL r - 1) + 1 from by omega]
      simpa using this

/-- What the search from behind finds. -/
theorem sizeL_eq (l : List Nat) (k : Nat) (h0 : ∀ i : Nat, k ≤ i → l[i]?.getD 0 = 0) (h1 : 0 < k → l[k - 1]?.getD 0 ≠ 0) : sizeL l = k := by
  have a := sizeL_zero l
  have b := sizeL_top l
  rcases Nat.lt_trichotomy (sizeL l) k with h | h | h
  · exact absurd (a (k - 1) (by omega)) (h1 (by omega))
  · exact h
  · exact absurd (h0 (sizeL l - 1) (by omega)) (b (by omega))

theorem val_append (a b : List Nat) : val (a ++ b) = val a + 4294967296 ^ a.length * val b := by
  induction a with
  | nil => simp [val]
  | cons d r ih =>
    simp only [List.cons_append, val, ih, List.length_cons, Nat.pow_succ]
    rw [Nat.mul_add, Nat.add_assoc, ← Nat.mul_assoc, Nat.mul_comm 4294967296 (4294967296 ^ r.length)]
theorem val_lt {l : List Nat} (h : small l) : val l < 4294967296 ^ l.length := by
  induction l with
  | nil => simp [val]
  | cons d r ih =>
    have ⟨h1, h2⟩ := small_cons.1 h
    have := ih h2
    simp only [val, List.length_cons, Nat.pow_succ]
    omega
theorem val_zeros (l : List Nat) (h : ∀ i : Nat, l[i]?.getD 0 = 0) : val l = 0 := by
  induction l with
  | nil => rfl
  | cons d r ih =>
    have h0 := h 0
    simp at h0
    have := ih (fun i => by have := h (i + 1); simpa using this)
    simp [val, this, h0]
theorem val_replicate (k : Nat) : val (List.replicate k 0) = 0 := by
  induction k with
  | zero => rfl
  | succ k ih => simp [List.replicate_succ, val, ih]
theorem val_split (l : List Nat) (k : Nat) : val l = val (l.take k) + 4294967296 ^ (l.take k).length * val (l.drop k) := by
  conv => lhs; rw [← List.take_append_drop k l]
  rw [val_append]

theorem getD_take (l : List Nat) (k i : Nat) : (l.take k)[i]?.getD 0 = if i < k then l[i]?.getD 0 else 0 := by
  rw [List.getElem?_take]; split <;> simp
theorem getD_drop (l : List Nat) (k i : Nat) : (l.drop k)[i]?.getD 0 = l[k + i]?.getD 0 := by
  rw [List.getElem?_drop]

theorem val_trimL (l : List Nat) : val (trimL l) = val l := by
  rw [val_split l (sizeL l), val_zeros (l.drop (sizeL l))]
  · simp [trimL]
  · intro i; rw [getD_drop]; exact sizeL_zero l _ (by omega)
theorem length_trimL (l : List Nat) : (trimL l).length = sizeL l := by
  have := sizeL_le l
  simp [trimL]; omega
theorem small_trimL {l : List Nat} (h : small l) : small (trimL l) := small_take _ h
theorem getD_trimL (l : List Nat) (i : Nat) : (trimL l)[i]?.getD 0 = l[i]?.getD 0 := by
  rw [trimL, getD_take]
  split
  · rfl
  · rw [sizeL_zero l i (by omega)]
theorem norm_trimL (l : List Nat) : norm (trimL l) := by
  unfold norm
  rw [length_trimL]
  apply sizeL_eq
  · intro i hi; rw [getD_trimL]; exact sizeL_zero l i hi
  · intro h; rw [getD_trimL]; exact sizeL_top l h
theorem trimL_norm {l : List Nat} (h : norm l) : trimL l = l := by
  rw [trimL, show sizeL l = l.length from h, List.take_length]
theorem norm_nil : norm [] := rfl

theorem val_ge {l : List Nat} (h : norm l) (h0 : 0 < l.length) : 4294967296 ^ (l.length - 1) ≤ val l := by
  have ht := sizeL_top l (by rw [show sizeL l = l.length from h]; exact h0)
  rw [show sizeL l = l.length from h] at ht
  rw [val_split l (l.length - 1)]
  have e : l.drop (l.length - 1) = [l[l.length - 1]?.getD 0] := by
    rw [List.drop_eq_getElem_cons (by omega)]
    simp [show l.length - 1 < l.length from by omega, List.drop_eq_nil_of_le (show l.length ≤ l.length - 1 + 1 by omega)]
  rw [e]
  simp only [val, Nat.mul_zero, Nat.add_zero]
  have : (l.take (l.length - 1)).length = l.length - 1 := by simp
  rw [this]
  have : 1 ≤ l[l.length - 1]?.getD 0 := by omega
  calc 4294967296 ^ (l.length - 1) = 4294967296 ^ (l.length - 1) * 1 := by simp
    _ ≤ 4294967296 ^ (l.length - 1) * (l[l.length - 1]?.getD 0) := Nat.mul_le_mul_left _ this
    _ ≤ _ := Nat.le_add_left _ _

theorem val_zero_nil {l : List Nat} (h : norm l) (h0 : val l = 0) : l = [] := by
  by_cases hl : 0 < l.length
  · have := val_ge h hl
    have : 0 < 4294967296 ^ (l.length - 1) := Nat.pow_pos (by omega)
    omega
  · exact List.length_eq_zero_iff.1 (by omega)

/-- How long a number's digits are, by the number. -/
theorem length_le_of_lt {l : List Nat} (h : norm l) {k : Nat} (hv : val l < 4294967296 ^ k) : l.length ≤ k := by
  by_cases hl : 0 < l.length
  · have h1 := val_ge h hl
    have h2 := Nat.lt_of_le_of_lt h1 hv
    have h3 := (Nat.pow_lt_pow_iff_right (show 1 < 4294967296 by omega)).1 h2
    omega
  · omega

theorem norm_tail {d : Nat} {r : List Nat} (h : norm (d :: r)) : norm r := by
  unfold norm at *
  simp only [sizeL, List.length_cons] at h
  have := sizeL_le r
  split at h
  · split at h <;> omega
  · omega

/-- A number has just one row of digits. -/
theorem val_inj : ∀ {a b : List Nat}, small a → small b → norm a → norm b → val a = val b → a = b
  | [], b, _, _, _, hb, h => (val_zero_nil hb h.symm).symm
  | x :: a, [], _, _, ha, _, h => val_zero_nil ha h
  | x :: a, y :: b, sa, sb, ha, hb, h => by
    have ⟨h1, h2⟩ := small_cons.1 sa
    have ⟨h3, h4⟩ := small_cons.1 sb
    simp only [val] at h
    have e : x = y := by omega
    have := val_inj h2 h4 (norm_tail ha) (norm_tail hb) (by omega)
    rw [e, this]

end Go.Proofs.Ytceonncbflmciaa
