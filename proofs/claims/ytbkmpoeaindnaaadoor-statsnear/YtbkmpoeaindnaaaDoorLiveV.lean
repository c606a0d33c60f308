/- What levellinglaw17.live asks, at its numbers. -/
import Derived.Test.YtbkmpoeaindnaaaDoorMissAll
namespace Go.Proofs.YtbkmpoeaindnaaaDoor
open Go.RowKit Go.Shelf Rnd

theorem ba (w : World) (o : Obj) : Below w.heap.size w (w.alloc o) := (Below.refl _ w).alloc (Nat.le_refl _) o
/-- A call's world, and a box made behind it. -/
theorem bal2 {a b c : World} {n : Nat} (h : Below n a b) (k : Below b.heap.size b c) (o : Obj) (hn : n ≤ b.heap.size) : Below n a (c.alloc o) := (h.trans (k.mono hn)).alloc (Nat.le_trans hn k.size) o
theorem SBox.step {W W' : World} {B : Nat} {F : Int} {R T V I : Nat} (h : SBox W B F R T V I) (hb : Below W.heap.size W W') (o : Obj) : SBox (W'.alloc o) B F R T V I := (h.below hb h.lt).below (ba W' o) (Nat.lt_of_lt_of_le h.lt hb.size)

theorem FBox.step {W W' : World} {B : Nat} {c r t : Int} {sv : Value} (h : FBox W B c sv r t) (hb : Below W.heap.size W W') (o : Obj) : FBox (W'.alloc o) B c sv r t := (h.below hb (Nat.le_refl _)).below (ba W' o) (Nat.le_refl _)
/-- What a walk is told of the law's own 'live'. -/
def LiveC : Prop := ∀ w, Tab w → Calls Tryd.prog 9 #[] w fun e w' => e = .returned (.bool true) ∧ Below w.heap.size w w'

/-- 2, 1, 5, 4, 8, 3; 1, 1, 1. -/
def X6 : List Nat := [4611686018427387904, 4607182418800017408, 4617315517961601024, 4616189618054758400, 4620693217682128896, 4613937818241073152]
def X3 : List Nat := [4607182418800017408, 4607182418800017408, 4607182418800017408]
theorem okX6 : okF X6 := by intro x hx; simp [X6] at hx; omega
theorem okX3 : okF X3 := by intro x hx; simp [X3] at hx; omega
theorem v_E : stE 2 X6 4 0 = 0 := by decide +kernel
theorem v_F : sF 2 X6 4 0 = 2 := by decide +kernel
theorem v_R : sR 2 X6 4 0 = 4621256167635550208 := by decide +kernel
theorem v_T : sT 2 X6 4 0 = 4636596553866280960 := by decide +kernel
theorem v_V : sV 2 X6 4 0 = 4616752568008179712 := by decide +kernel
theorem v_I : sI 2 X6 4 0 = 4606355227031724868 := by decide +kernel
theorem v_S : sS 2 X6 4 0 = 4611959207554411737 := by decide +kernel
theorem v_E1 : stE 1 X3 1 0 = 5 := by decide +kernel
theorem v_mE : miE 2 X6 4 0 [4609434218613702656, 4611686018427387904] = 0 := by decide +kernel
theorem v_mV : miV 2 X6 4 0 [4609434218613702656, 4611686018427387904] = 4621256167635550208 := by decide +kernel
theorem v_nE : miE 2 X6 4 0 [0, 4611686018427387904] = 0 := by decide +kernel
theorem v_nV : miV 2 X6 4 0 [0, 4611686018427387904] = 4625759767262920704 := by decide +kernel
theorem v_0 : miE 2 X6 4 0 [] = 1 ∧ miV 2 X6 4 0 [] = 0 := mi_arg (.inr (by decide))
theorem okM : okF [4609434218613702656, 4611686018427387904] := by intro x hx; simp at hx; omega
theorem okN : okF [0, 4611686018427387904] := by intro x hx; simp at hx; omega

theorem lv_of (sv : Value) (w : World) (hT : Tab w) (hF : Fls w sv X6) : Calls Tryd.prog 10 #[fv 2 sv 4 0] w fun e w' => e = .returned (.tuple #[stv 2 4621256167635550208 4636596553866280960 4616752568008179712 4606355227031724868, .int .i64 0]) ∧ Below w.heap.size w w' := by
  have h := of_all 2 4 0 sv X6 w hT hF
  unfold OfC at h
  rw [v_E, v_F, v_R, v_T, v_V, v_I] at h
  exact h
theorem lv_sp (sv : Value) (w : World) (hT : Tab w) (hF : Fls w sv X6) : Calls Tryd.prog 12 #[fv 2 sv 4 0] w fun e w' => e = .returned (.tuple #[fl 4611959207554411737, .int .i64 0]) ∧ Below w.heap.size w w' := by
  have h := spread_all 2 4 0 sv X6 w hT hF
  unfold SpC at h
  rw [v_E, v_S] at h
  exact h
theorem lv_m (sv lv : Value) (w : World) (hT : Tab w) (hF : Fls w sv X6) (hL : Fls w lv [4609434218613702656, 4611686018427387904]) : Calls Tryd.prog 16 #[fv 2 sv 4 0, lv] w fun e w' => e = .returned (.tuple #[fl 4621256167635550208, .int .i64 0]) ∧ Below w.heap.size w w' := by
  have h := miss_all 2 4 0 sv lv X6 _ w hT hF hL
  unfold MisC at h
  rw [v_mE, v_mV] at h
  exact h
theorem lv_n (sv lv : Value) (w : World) (hT : Tab w) (hF : Fls w sv X6) (hL : Fls w lv [0, 4611686018427387904]) : Calls Tryd.prog 16 #[fv 2 sv 4 0, lv] w fun e w' => e = .returned (.tuple #[fl 4625759767262920704, .int .i64 0]) ∧ Below w.heap.size w w' := by
  have h := miss_all 2 4 0 sv lv X6 _ w hT hF hL
  unfold MisC at h
  rw [v_nE, v_nV] at h
  exact h
theorem lv_0 (sv : Value) (w : World) (hT : Tab w) (hF : Fls w sv X6) : Calls Tryd.prog 16 #[fv 2 sv 4 0, .slice none 0 0] w fun e w' => e = .returned (.tuple #[fl 0, .int .i64 1]) ∧ Below w.heap.size w w' := by
  have h := miss_all 2 4 0 sv _ X6 _ w hT hF (Fls.nil w)
  unfold MisC at h
  rw [v_0.1, v_0.2] at h
  exact h
theorem lv_1 (sv : Value) (w : World) (hT : Tab w) (hF : Fls w sv X3) : Calls Tryd.prog 10 #[fv 1 sv 1 0] w fun e w' => e = .returned (.tuple #[stv 0 0 0 0 0, .int .i64 5]) ∧ Below w.heap.size w w' := by
  have h := of_all 1 1 0 sv X3 w hT hF
  obtain ⟨y1, y2, y3, y4, y5, _⟩ := st_no (c := 1) (xs := X3) (r := 1) (t := 0) (by rw [v_E1]; decide)
  unfold OfC at h
  rw [v_E1, y1, y2, y3, y4, y5] at h
  exact h
/-- Lists of floats that are built. -/
theorem built_list (w : World) (xs : List Nat) (h : okF xs) (hl : xs.length ≤ 1000) : Fls (w.alloc (.cells (xs.map fl).toArray 26)) (.slice (some ⟨w.heap.size, 0, none⟩) xs.length xs.length) xs := by
  have h1 : RowF (w.alloc (.cells (xs.map fl).toArray 26)) w.heap.size xs := Go.Deep.blk_alloc_new _ _
  exact h1.fls h hl
theorem l_eq9 : (FloatKind.f64.format.order 4621256167635550208 4621256167635550208 == some Ordering.eq) = true := by decide +kernel
theorem l_eq98 : (FloatKind.f64.format.order 4636596553866280960 4636596553866280960 == some Ordering.eq) = true := by decide +kernel
theorem l_eq45 : (FloatKind.f64.format.order 4616752568008179712 4616752568008179712 == some Ordering.eq) = true := by decide +kernel
theorem l_eq18 : (FloatKind.f64.format.order 4625759767262920704 4625759767262920704 == some Ordering.eq) = true := by decide +kernel
end Go.Proofs.YtbkmpoeaindnaaaDoor
