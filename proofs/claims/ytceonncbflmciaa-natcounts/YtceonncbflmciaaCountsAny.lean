/- nat's functions and the plain answers' ones, each by one contract for all inputs that NatCounts gives them. -/
import Derived.Test.YtceonncbflmciaaArgs
import Derived.Test.YtceonncbflmciaaRefSub
import Derived.Test.YtceonncbflmciaaRefMul
import Derived.Test.YtceonncbflmciaaRefShr
namespace Go.Proofs.Ytceonncbflmciaa
open Go.RowKit Go.Shelf

theorem Num.res {W : World} {base : Nat} {v : Value} {N : Nat} (h : Num W base v N) : Res W v N := h.open
theorem Res.nil (W : World) : Res W (.slice none 0 0) 0 := ⟨[], Digs.nil _, norm_nil, rfl⟩

theorem sub_any (va vb : Value) (A B : List Nat) (w : World) (hA : Digs w va A) (hB : Digs w vb B) (hla : A.length ≤ 100000) (hlb : B.length ≤ 100000) :
    Calls Try.prog 7 #[va, vb] w fun e w' => (∃ v, e = .returned (.tuple #[v, .bool (decide (val B ≤ val A))]) ∧ Res w' v (val A - val B)) ∧ Below w.heap.size w w' := by
  by_cases h : val B ≤ val A
  · refine (sub_yes va vb A B w hA hB hla hlb h).mono ?_
    rintro e w' ⟨⟨v, rfl, hn⟩, hb⟩
    exact ⟨⟨v, by rw [decide_eq_true h], hn.res⟩, hb⟩
  · refine (sub_no va vb A B w hA hB (by omega)).mono ?_
    rintro e w' ⟨rfl, hb⟩
    exact ⟨⟨_, by rw [decide_eq_false h], by rw [Nat.sub_eq_zero_of_le (by omega)]; exact Res.nil _⟩, hb⟩
theorem rsub_any (va vb : Value) (A B : List Nat) (w : World) (hA : Digs w va A) (hB : Digs w vb B) (hla : A.length ≤ 100000) (hlb : B.length ≤ 100000) :
    Calls Try.prog 8 #[va, vb] w fun e w' => (∃ v, e = .returned (.tuple #[v, .bool (decide (val B ≤ val A))]) ∧ Res w' v (val A - val B)) ∧ Below w.heap.size w w' := by
  by_cases h : val B ≤ val A
  · refine (rsub_yes va vb A B w hA hB hla hlb h).mono ?_
    rintro e w' ⟨⟨v, rfl, hn⟩, hb⟩
    exact ⟨⟨v, by rw [decide_eq_true h], hn⟩, hb⟩
  · refine (rsub_no va vb A B w hA hB (by omega)).mono ?_
    rintro e w' ⟨rfl, hb⟩
    exact ⟨⟨_, by rw [decide_eq_false h], by rw [Nat.sub_eq_zero_of_le (by omega)]; exact Res.nil _⟩, hb⟩

/-- What a shift answers; outside of 0 .. 100000: 0. -/
def shrN (k : Int) (a : Nat) : Nat := if 0 ≤ k ∧ k ≤ 100000 then a / 2 ^ k.toNat else 0
def shrB (k : Int) (a : Nat) : Bool := if 0 ≤ k ∧ k ≤ 100000 then decide (a % 2 ^ k.toNat = 0) else false
def shlN (k : Int) (a : Nat) : Nat := if 0 ≤ k ∧ k ≤ 100000 then a * 2 ^ k.toNat else 0

theorem shr_any (va : Value) (A : List Nat) (k : Int) (w : World) (hA : Digs w va A) (hla : A.length ≤ 50000) :
    Calls Try.prog 9 #[va, .int .i64 k] w fun e w' => (∃ v, e = .returned (.tuple #[v, .bool (shrB k (val A))]) ∧ Res w' v (shrN k (val A))) ∧ Below w.heap.size w w' := by
  unfold shrB shrN
  by_cases h : 0 ≤ k ∧ k ≤ 100000
  · rw [if_pos h, if_pos h]
    refine (shr_c va A k w hA (by omega) h.1 h.2).mono ?_
    rintro e w' ⟨⟨v, rfl, hn⟩, hb⟩
    exact ⟨⟨v, rfl, hn.res⟩, hb⟩
  · rw [if_neg h, if_neg h]
    refine (shr_no va A k w hA (by omega)).mono ?_
    rintro e w' ⟨rfl, rfl⟩
    exact ⟨⟨_, rfl, Res.nil _⟩, Below.refl _ _⟩
theorem rshr_any (va : Value) (A : List Nat) (k : Int) (w : World) (hA : Digs w va A) (hla : A.length ≤ 50000) :
    Calls Try.prog 10 #[va, .int .i64 k] w fun e w' => (∃ v, e = .returned (.tuple #[v, .bool (shrB k (val A))]) ∧ Res w' v (shrN k (val A))) ∧ Below w.heap.size w w' := by
  unfold shrB shrN
  by_cases h : 0 ≤ k ∧ k ≤ 100000
  · rw [if_pos h, if_pos h]
    obtain ⟨n, rfl⟩ := Int.eq_ofNat_of_zero_le h.1
    rw [Int.toNat_natCast]
    exact rshr_c va A n w hA hla (by omega)
  · rw [if_neg h, if_neg h]
    refine (rshr_no va A k w hA (by omega)).mono ?_
    rintro e w' ⟨rfl, rfl⟩
    exact ⟨⟨_, rfl, Res.nil _⟩, Below.refl _ _⟩
theorem shl_any (va : Value) (A : List Nat) (k : Int) (w : World) (hA : Digs w va A) (hla : A.length ≤ 50000) :
    Calls Try.prog 16 #[va, .int .i64 k] w fun e w' => (∃ v, e = .returned v ∧ Res w' v (shlN k (val A))) ∧ Below w.heap.size w w' := by
  unfold shlN
  by_cases h : 0 ≤ k ∧ k ≤ 100000
  · rw [if_pos h]
    refine (shl_c va A k w hA (by omega) h.1 h.2).mono ?_
    rintro e w' ⟨⟨v, rfl, hn⟩, hb⟩
    exact ⟨⟨v, rfl, hn.res⟩, hb⟩
  · rw [if_neg h]
    refine (shl_no va A k w hA (by omega)).mono ?_
    rintro e w' ⟨rfl, rfl⟩
    exact ⟨⟨_, rfl, Res.nil _⟩, Below.refl _ _⟩
theorem rshl_any (va : Value) (A : List Nat) (k : Int) (w : World) (hA : Digs w va A) (hla : A.length ≤ 50000) :
    Calls Try.prog 17 #[va, .int .i64 k] w fun e w' => (∃ v, e = .returned v ∧ Res w' v (shlN k (val A))) ∧ Below w.heap.size w w' := by
  unfold shlN
  by_cases h : 0 ≤ k ∧ k ≤ 100000
  · rw [if_pos h]
    obtain ⟨n, rfl⟩ := Int.eq_ofNat_of_zero_le h.1
    rw [Int.toNat_natCast]
    exact rshl_c va A n w hA (by omega) (by omega)
  · rw [if_neg h]
    refine (rshl_no va A k w hA (by omega)).mono ?_
    rintro e w' ⟨rfl, rfl⟩
    exact ⟨⟨_, rfl, Res.nil _⟩, Below.refl _ _⟩

/-- Two slices that hold one number, without zeros at their end, hold the same digits. -/
theorem same_digs {W1 W2 : World} {v1 v2 : Value} {a b : List Nat} {N : Nat} (h1 : Digs W1 v1 a) (n1 : norm a) (e1 : val a = N) (h2 : Digs W2 v2 b) (n2 : norm b) (e2 : val b = N) : b = a :=
  val_inj h2.1 h1.1 n2 n1 (e2.trans e1.symm)
end Go.Proofs.Ytceonncbflmciaa
