/- What Line and Set tell, whatever is asked. -/
import Derived.Test.YtaglfndhgdolfaaDoorRefSame
import Derived.Test.YtaglfndhgdolfaaDoorRefSetNo
import Derived.Test.YtaglfndhgdolfaaDoorRefLineNo
import Derived.Test.YtaglfndhgdolfaaDoorArgs
namespace Go.Proofs.YtaglfndhgdolfaaDoor
open Go.RowKit Go.Shelf

/-- What Line tells. -/
def lineL (c : Int) (xs : List Nat) (m t i : Int) : List Nat := if inTri c i i ∧ checkB c xs m t = true then lineN c.toNat xs i.toNat else []
theorem line_all (c m t i : Int) (sv : Value) (xs : List Nat) (w : World) (hT : Tab w) (hF : Fls w sv xs) :
    Calls Tryd.prog 25 #[fv c sv m t, .int .i64 i] w fun e w' => (∃ a len cap, e = .returned (.slice a len cap) ∧ Fls w' (.slice a len cap) (lineL c xs m t i)) ∧ Below w.heap.size w w' := by
  unfold lineL
  by_cases h : inTri c i i ∧ checkB c xs m t = true
  · rw [if_pos h]
    obtain ⟨n, a, b, rfl, rfl, hj, h1, h6, hij, hjn⟩ := inTri_nat h.1
    obtain rfl : a = b := by omega
    obtain ⟨n', hn', _, _, hlen⟩ := check_len h.2
    obtain rfl : n = n' := by omega
    simp only [Int.toNat_natCast]
    refine (line_yes n a m t sv xs w hT hF h.2 hjn).mono ?_
    rintro e w' ⟨⟨g, he, _, hR⟩, hb⟩
    have h3 := hR.fls (line_ok hF.1) (by rw [line_length h6 hjn hlen]; omega)
    rw [line_length h6 hjn hlen] at h3
    exact ⟨⟨_, _, _, he, h3⟩, hb⟩
  · rw [if_neg h]
    refine (line_no c m t i sv xs w hT hF h).mono ?_
    rintro e w' ⟨he, hb⟩
    exact ⟨⟨_, _, _, he, Fls.nil _⟩, hb⟩
theorem rline_all (c m t i : Int) (sv : Value) (xs : List Nat) (w : World) (hF : Fls w sv xs) :
    Calls Tryd.prog 26 #[fv c sv m t, .int .i64 i] w fun e w' => (∃ a len cap, e = .returned (.slice a len cap) ∧ Fls w' (.slice a len cap) (lineL c xs m t i)) ∧ Below w.heap.size w w' := by
  unfold lineL
  by_cases h : inTri c i i ∧ checkB c xs m t = true
  · rw [if_pos h]
    obtain ⟨n, a, b, rfl, rfl, hj, h1, h6, hij, hjn⟩ := inTri_nat h.1
    obtain rfl : a = b := by omega
    simp only [Int.toNat_natCast]
    refine (rline_yes n a m t sv xs w hF h.2 hjn).mono ?_
    rintro e w' ⟨⟨v, he, hR⟩, hb⟩
    obtain ⟨a', cap', rfl, _⟩ := hR.shape
    exact ⟨⟨_, _, _, he, hR⟩, hb⟩
  · rw [if_neg h]
    refine (rline_no c m t i sv xs w hF h).mono ?_
    rintro e w' ⟨he, hb⟩
    exact ⟨⟨_, _, _, he, Fls.nil _⟩, hb⟩

/-- What Set tells: whether, and the factor's numbers. -/
def setOk (c : Int) (xs : List Nat) (m t i : Int) (l : List Nat) : Bool := decide (inTri c i i ∧ checkB c xs m t = true ∧ (l.length : Int) = c + 1) && checkB c (setN c.toNat xs i.toNat l) m t
def setL (c : Int) (xs : List Nat) (m t i : Int) (l : List Nat) : List Nat := if setOk c xs m t i l = true then setN c.toNat xs i.toNat l else []
def setZ (c : Int) (xs : List Nat) (m t i : Int) (l : List Nat) (z : Int) : Int := if setOk c xs m t i l = true then z else 0

theorem set_of {P : Program} {F : Nat} {args : Array Value} {c m t i : Int} {xs l : List Nat} {w : World} (hok : okF xs) (hol : okF l) (hxl : xs.length ≤ 1000)
    (yes : ∀ n k : Nat, c = (n : Int) → i = (k : Int) → checkB n xs m t = true → k ≤ n → l.length = n + 1 → Calls P F args w fun e w' =>
      ((checkB n (setN n xs k l) m t = true ∧ ∃ g cap, e = .returned (.tuple #[fv n (.slice (some ⟨g, 0, none⟩) xs.length cap) m t, .bool true]) ∧ w.heap.size ≤ g ∧ RowX w' g cap (setN n xs k l)) ∨
       (checkB n (setN n xs k l) m t = false ∧ e = .returned (.tuple #[fv 0 (.slice none 0 0) 0 0, .bool false]))) ∧ Below w.heap.size w w')
    (no : ¬ (inTri c i i ∧ checkB c xs m t = true ∧ (l.length : Int) = c + 1) → Calls P F args w fun e w' => e = .returned (.tuple #[fv 0 (.slice none 0 0) 0 0, .bool false]) ∧ Below w.heap.size w w') :
    Calls P F args w fun e w' => (∃ a len cap, e = .returned (.tuple #[fv (setZ c xs m t i l c) (.slice a len cap) (setZ c xs m t i l m) (setZ c xs m t i l t), .bool (setOk c xs m t i l)]) ∧ Fls w' (.slice a len cap) (setL c xs m t i l)) ∧ Below w.heap.size w w' := by
  unfold setZ setL
  by_cases h : inTri c i i ∧ checkB c xs m t = true ∧ (l.length : Int) = c + 1
  · obtain ⟨n, k, b, rfl, rfl, hj, h1, h6, hij, hjn⟩ := inTri_nat h.1
    obtain rfl : k = b := by omega
    obtain ⟨n', hn', _, _, hlen⟩ := check_len h.2.1
    obtain rfl : n = n' := by omega
    have hll : l.length = n + 1 := by have := h.2.2; omega
    have hso : setOk n xs m t k l = checkB n (setN n xs k l) m t := by unfold setOk; rw [decide_eq_true h]; simp
    refine (yes n k rfl rfl h.2.1 hjn hll).mono ?_
    rintro e w' ⟨⟨hc, g, cap, he, _, hX⟩ | ⟨hc, he⟩, hb⟩
    · rw [hso, hc]
      simp only [if_true, Int.toNat_natCast]
      have h3 := hX.fls (set_ok hok hol) (by rw [set_length h6 hjn hlen hll]; exact hxl)
      rw [set_length h6 hjn hlen hll] at h3
      exact ⟨⟨_, _, _, he, h3⟩, hb⟩
    · rw [hso, hc]
      simp only [Bool.false_eq_true, if_false]
      exact ⟨⟨_, _, _, he, Fls.nil _⟩, hb⟩
  · have hso : setOk c xs m t i l = false := by unfold setOk; rw [decide_eq_false h]; rfl
    refine (no h).mono ?_
    rintro e w' ⟨he, hb⟩
    rw [hso]
    simp only [Bool.false_eq_true, if_false]
    exact ⟨⟨_, _, _, he, Fls.nil _⟩, hb⟩

theorem set_all (c m t i : Int) (sv lv : Value) (xs l : List Nat) (w : World) (hT : Tab w) (hF : Fls w sv xs) (hL : Fls w lv l) :
    Calls Tryd.prog 19 #[fv c sv m t, .int .i64 i, lv] w fun e w' => (∃ a len cap, e = .returned (.tuple #[fv (setZ c xs m t i l c) (.slice a len cap) (setZ c xs m t i l m) (setZ c xs m t i l t), .bool (setOk c xs m t i l)]) ∧ Fls w' (.slice a len cap) (setL c xs m t i l)) ∧ Below w.heap.size w w' := by
  refine set_of hF.1 hL.1 hF.2.1 ?_ (fun h => set_no c m t i sv lv xs l w hT hF hL h)
  rintro n k rfl rfl h1 h2 h3
  exact set_c n k m t sv lv xs l w hT hF hL h1 h2 h3
theorem rset_all (c m t i : Int) (sv lv : Value) (xs l : List Nat) (w : World) (hF : Fls w sv xs) (hL : Fls w lv l) :
    Calls Tryd.prog 20 #[fv c sv m t, .int .i64 i, lv] w fun e w' => (∃ a len cap, e = .returned (.tuple #[fv (setZ c xs m t i l c) (.slice a len cap) (setZ c xs m t i l m) (setZ c xs m t i l t), .bool (setOk c xs m t i l)]) ∧ Fls w' (.slice a len cap) (setL c xs m t i l)) ∧ Below w.heap.size w w' := by
  refine set_of hF.1 hL.1 hF.2.1 ?_ (fun h => rset_no c m t i sv lv xs l w hF hL h)
  rintro n k rfl rfl h1 h2 h3
  exact rset_c n k m t sv lv xs l w hF hL h1 h2 h3
end Go.Proofs.YtaglfndhgdolfaaDoor
