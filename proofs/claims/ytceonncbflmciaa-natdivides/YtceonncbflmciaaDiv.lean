/- nat.Div. -/
import Derived.Test.YtceonncbflmciaaDivL
import Derived.Test.YtceonncbflmciaaDivS
import Derived.OwnWalk
namespace Go.Proofs.Ytceonncbflmciaa
open Go.RowKit Go.Shelf

theorem trimL_nil_val {A : List Nat} (h : (trimL A).length = 0) : val A = 0 := by
  rw [← val_trimL, List.length_eq_zero_iff.1 h]; rfl
theorem norm_val_pos {Y : List Nat} (h : norm Y) (h0 : 0 < Y.length) : 0 < val Y := by
  have := val_ge h h0
  have : 0 < 4294967296 ^ (Y.length - 1) := Nat.pow_pos (by omega)
  omega

set_option maxRecDepth 100000 in
set_option maxHeartbeats 4000000 in
/-- nat.Div by 0. -/
theorem div_no (va vb : Value) (A B : List Nat) (w : World) (hA : Digs w va A) (hB : Digs w vb B) (h0 : val B = 0) :
    Calls Try.prog 18 #[va, vb] w fun e w' => e = .returned (.tuple #[.slice none 0 0, .slice none 0 0, .bool false]) ∧ Below w.heap.size w w' := by
  obtain ⟨aa, ca, rfl, hca⟩ := hA.shape
  obtain ⟨ab, cb, rfl, hcb⟩ := hB.shape
  have nY := norm_trimL B
  have hy0 : (trimL B).length = 0 := by
    apply Classical.byContradiction
    intro h
    have := norm_val_pos nY (by omega)
    rw [val_trimL] at this
    omega
  have hy0' : (((trimL B).length : Int) == 0) = true := by simp [hy0]
  clear hy0 h0
  go_enter Try.func18, Try.ntmps18
  go_wp2_with fail
  refine (trim_d _ _ _ _ hA).mono ?_
  rintro e w1 ⟨rfl, hb1⟩
  go_wp2_with fail
  refine (trim_d _ _ _ _ (hB.below hb1 (Nat.le_refl _))).mono ?_
  rintro e w2 ⟨rfl, hb2⟩
  have hbw : Below w.heap.size w w2 := hb1.trans (hb2.mono hb1.size)
  clear hb1 hb2
  generalize trimL A = X at *
  generalize trimL B = Y at *
  go_wp2
  go_ret3
  exact ⟨rfl, hbw⟩

set_option maxRecDepth 100000 in
set_option maxHeartbeats 4000000 in
/-- nat.Div. -/
theorem div_c (va vb : Value) (A B : List Nat) (w : World) (hA : Digs w va A) (hB : Digs w vb B) (hla : A.length ≤ 50000) (h0 : 0 < val B) :
    Calls Try.prog 18 #[va, vb] w fun e w' => (∃ v v2, e = .returned (.tuple #[v, v2, .bool true]) ∧ Num w' w.heap.size v (val A / val B) ∧ Num w' w.heap.size v2 (val A % val B)) ∧ Below w.heap.size w w' := by
  obtain ⟨aa, ca, rfl, hca⟩ := hA.shape
  obtain ⟨ab, cb, rfl, hcb⟩ := hB.shape
  have hX := hA.trim'
  have hY := hB.trim'
  have nX := norm_trimL A
  have nY := norm_trimL B
  have hlx : (trimL A).length ≤ 50000 := by rw [length_trimL]; have := sizeL_le A; omega
  have hlb := hB.2.1
  have hly : (trimL B).length ≤ 1000000 := by rw [length_trimL]; have := sizeL_le B; omega
  have h1 : 0 < val (trimL B) := by rw [val_trimL]; exact h0
  have HQ0 : Hid (val (trimL A) / val (trimL B) = val A / val B) := by show _ = _; rw [val_trimL, val_trimL]
  have HR0 : Hid (val (trimL A) % val (trimL B) = val A % val B) := by show _ = _; rw [val_trimL, val_trimL]
  generalize val A / val B = q at *
  generalize val A % val B = r at *
  have hy0 : 0 < (trimL B).length := by
    apply Classical.byContradiction
    intro h
    rw [List.length_eq_zero_iff.1 (show (trimL B).length = 0 by omega)] at h1
    simp [val] at h1
  have hy0' : (((trimL B).length : Int) == 0) = false := by simp; intro h; rw [h] at hy0; simp at hy0
  go_enter Try.func18, Try.ntmps18
  go_wp2_with fail
  refine (trim_d _ _ _ _ hA).mono ?_
  rintro e w1 ⟨rfl, hb1⟩
  go_wp2_with fail
  refine (trim_d _ _ _ _ (hB.below hb1 (Nat.le_refl _))).mono ?_
  rintro e w2 ⟨rfl, hb2⟩
  have hbw : Below w.heap.size w w2 := hb1.trans (hb2.mono hb1.size)
  have hs0 := hbw.size
  clear hb1 hb2
  have hX2 := hX.below hbw (Nat.le_refl _)
  have hY2 := hY.below hbw (Nat.le_refl _)
  clear hX hY hA hB h0
  generalize trimL A = X at *
  generalize trimL B = Y at *
  by_cases hxy : X.length < Y.length
  · have HQ : Hid (val X / val Y = 0) := Nat.div_eq_of_lt (val_lt_len hX2.1 nY hxy)
    have HR : Hid (val X % val Y = val X) := Nat.mod_eq_of_lt (val_lt_len hX2.1 nY hxy)
    go_wp2_with fail
    refine (up_c _ X 0 _ hX2 (by omega) (by omega)).mono ?_
    rintro e w3 ⟨⟨v, rfl, hn⟩, hb3⟩
    go_wp2
    go_ret3
    refine ⟨⟨_, _, rfl, ?_, ?_⟩, hbw.trans (hb3.mono hs0)⟩
    · rw [← HQ0.out, HQ.out]; exact Num.nil _ _
    · rw [← HR0.out, HR.out]; rw [Nat.pow_zero, Nat.mul_one] at hn; exact hn.mono hs0
  · by_cases hy1 : Y.length = 1
    · have hy1' : ((Y.length : Int) == 1) = true := by simp [hy1]
      obtain ⟨b2, o2, c2, e2, hb2, hc2⟩ := hY2.cell (by omega)
      obtain ⟨rfl, rfl⟩ : ab = some ⟨b2, o2, none⟩ ∧ cb = c2 := by simpa using e2
      have hc0 := hc2 0 hy0
      obtain ⟨y, rfl⟩ : ∃ y, Y = [y] := List.length_eq_one_iff.1 hy1
      have hys : y < 4294967296 := hY2.1 y (by simp)
      have HV : Hid (val [y] = y) := by show _ = _; simp [val]
      have hyp : 0 < y := by rw [HV.out] at h1; exact h1
      simp only [List.getElem?_cons_zero, Option.getD_some, Nat.add_zero] at hc0
      clear hy1 e2 hc2
      go_wp2_with fail
      refine (divShort_c _ X y _ hX2 (by omega) hyp hys).mono ?_
      rintro e w3 ⟨⟨v, v2, rfl, hn, hn2⟩, hb3⟩
      go_wp2
      go_ret3
      have hq0 := HQ0.out
      have hr0 := HR0.out
      rw [HV.out] at hq0 hr0
      rw [hq0] at hn
      rw [hr0] at hn2
      exact ⟨⟨_, _, rfl, hn.mono hs0, hn2.mono hs0⟩, hbw.trans (hb3.mono hs0)⟩
    · have hy1' : ((Y.length : Int) == 1) = false := by simp; omega
      go_wp2_with fail
      refine (divLong_c _ _ X Y _ hX2 hY2 nY (by omega) (by omega) nX hlx).mono ?_
      rintro e w3 ⟨⟨v, v2, rfl, hn, hn2⟩, hb3⟩
      go_wp2
      go_ret3
      rw [HQ0.out] at hn
      rw [HR0.out] at hn2
      exact ⟨⟨_, _, rfl, hn.mono hs0, hn2.mono hs0⟩, hbw.trans (hb3.mono hs0)⟩
end Go.Proofs.Ytceonncbflmciaa
