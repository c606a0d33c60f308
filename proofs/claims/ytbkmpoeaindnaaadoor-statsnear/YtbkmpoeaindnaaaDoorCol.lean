/- The struct that squares are added in: its box, its methods. -/
import Derived.Deep.RegionWith
import Derived.Test.YtbkmpoeaindnaaaDoorStThree
import Derived.Test.YtbkmpoeaindnaaaDoorGet
import Derived.Test.YtbkmpoeaindnaaaDoorFBox
namespace Go.Proofs.YtbkmpoeaindnaaaDoor
open Go.RowKit Go.Shelf Rnd

/-- A column in a box: the sum of squares, and the factor. -/
abbrev ccells (a : Nat) (c : Int) (sv : Value) (r t : Int) : Obj := .cells #[fl a, .int .i64 c, sv, .int .i64 r, .int .i64 t] 83
def CBox (W : World) (B a : Nat) (c : Int) (sv : Value) (r t : Int) : Prop := W.heap[B]? = some (ccells a c sv r t)
theorem CBox.lt {W : World} {B a : Nat} {c r t : Int} {sv : Value} (h : CBox W B a c sv r t) : B < W.heap.size := (Array.getElem?_eq_some_iff.1 h).1
theorem CBox.below {W W' : World} {B a n : Nat} {c r t : Int} {sv : Value} (h : CBox W B a c sv r t) (hb : Below n W W') (hn : B < n) : CBox W' B a c sv r t := (hb.block B hn).trans h
theorem CBox.s {W : World} {B a : Nat} {c r t : Int} {sv : Value} (h : CBox W B a c sv r t) : W.cell? ⟨B, 0, none⟩ = some (fl a) := by simp [World.cell?, show W.heap[B]? = _ from h]
theorem CBox.c0 {W : World} {B a : Nat} {c r t : Int} {sv : Value} (h : CBox W B a c sv r t) : W.cell? ⟨B, 1, none⟩ = some (.int .i64 c) := by simp [World.cell?, show W.heap[B]? = _ from h]
theorem CBox.c1 {W : World} {B a : Nat} {c r t : Int} {sv : Value} (h : CBox W B a c sv r t) : W.cell? ⟨B, 2, none⟩ = some sv := by simp [World.cell?, show W.heap[B]? = _ from h]
theorem CBox.c2 {W : World} {B a : Nat} {c r t : Int} {sv : Value} (h : CBox W B a c sv r t) : W.cell? ⟨B, 3, none⟩ = some (.int .i64 r) := by simp [World.cell?, show W.heap[B]? = _ from h]
theorem CBox.c3 {W : World} {B a : Nat} {c r t : Int} {sv : Value} (h : CBox W B a c sv r t) : W.cell? ⟨B, 4, none⟩ = some (.int .i64 t) := by simp [World.cell?, show W.heap[B]? = _ from h]
theorem CBox.fz {W : World} {B a : Nat} {c r t : Int} {sv : Value} (h : CBox W B a c sv r t) (k : Nat) : W.frozen? ⟨B, k, none⟩ = false := by simp [World.frozen?, show W.heap[B]? = _ from h]
theorem CBox.new (w : World) (a : Nat) (c : Int) (sv : Value) (r t : Int) : CBox (w.alloc (ccells a c sv r t)) w.heap.size a c sv r t := Go.Deep.blk_alloc_new _ _
theorem CBox.set {W : World} {B a : Nat} {c r t : Int} {sv : Value} (h : CBox W B a c sv r t) (z : Nat) : CBox (W.setCell ⟨B, 0, none⟩ (fl z)) B z c sv r t := by
  obtain ⟨hlt, hk⟩ := Array.getElem?_eq_some_iff.1 h
  show (W.heap.modify B _)[B]? = _
  rw [Array.getElem?_eq_getElem (by rw [Array.size_modify]; exact hlt), Array.getElem_modify_self, hk]
  rfl
theorem CBox.heap {W W' : World} {B a : Nat} {c r t : Int} {sv : Value} (h : CBox W B a c sv r t) (e : W'.heap = W.heap) : CBox W' B a c sv r t := by
  unfold CBox
  rw [e]
  exact h

/-- The class of a sum and a square. -/
def asqC (a x : Option Nat) : Option Nat := opC .add a (opC .mul x x)

@[go_sem] theorem run_store_float (P : Program) (w : World) (a : Addr) (k : FloatKind) (b : Nat) (m : Mode) : (store a (.float k b) m).run P w = stored P w a (.float k b) m := run_store P w a _ m rfl

set_option maxHeartbeats 400000 in
theorem add_c (B a x : Nat) (c r t : Int) (sv : Value) (w : World) (hX : CBox w B a c sv r t) :
    Calls Tryd.prog 58 #[.pointer (some ⟨B, 0, none⟩), fl x] w fun e w' => e = .returned (.tuple #[]) ∧ (∃ z, z < 18446744073709551616 ∧ cls z = asqC (cls a) (cls x) ∧ CBox w' B z c sv r t) ∧ Below B w w' := by
  have s := hX.s
  have z := hX.fz 0
  have hm := run_op (op := .mul) (by simp) Tryd.prog 26
  have ha := run_op (op := .add) (by simp) Tryd.prog 26
  go_enter Tryd.func58, Tryd.ntmps58
  go_wp2
  go_end0
  refine ⟨rfl, ⟨_, opZ_lt _ _ _ _, ?_, (hX.heap (by simp)).set _⟩, (below_opW (below_opW (Below.refl _ _) _ _ _) _ _ _).setCell (p := ⟨B, 0, none⟩) (Nat.le_refl _) _⟩
  rw [cls_opZ, cls_opZ]
  rfl

set_option maxHeartbeats 400000 in
theorem total_c (B a : Nat) (c r t : Int) (sv : Value) (w : World) (hX : CBox w B a c sv r t) :
    Calls Tryd.prog 60 #[.pointer (some ⟨B, 0, none⟩)] w fun e w' => e = .returned (fl a) ∧ w' = w := by
  have s := hX.s
  go_enter Tryd.func60, Tryd.ntmps60
  go_wp2
  go_ret
  exact ⟨rfl, rfl⟩

set_option maxRecDepth 100000 in
set_option maxHeartbeats 1000000 in
theorem entry_c (B a : Nat) (c r t i : Int) (sv : Value) (xs : List Nat) (w : World) (hT : Tab w) (hX : CBox w B a c sv r t) (hF : Fls w sv xs) :
    Calls Tryd.prog 61 #[.pointer (some ⟨B, 0, none⟩), .int .i64 i] w fun e w' => e = .returned (fl (getN c xs r t i c)) ∧ Below w.heap.size w w' := by
  have x0 := hX.c0
  have x1 := hX.c1
  have x2 := hX.c2
  have x3 := hX.c3
  go_enter Tryd.func61, Tryd.ntmps61
  have kG := get_c c r t i c sv xs w.drew (hT.below ((Below.refl _ w).drew)) (hF.below ((Below.refl _ w).drew) (Nat.le_refl _))
  go_wp2_with fail
  go_region_with (go_at_call 78; refine kG.mono ?_; rintro e w1 ⟨rfl, hb⟩)
  all_goals
    go_wp2
    go_ret
    exact ⟨rfl, ((Below.refl _ w).drew).trans hb⟩

set_option maxRecDepth 100000 in
set_option maxHeartbeats 1000000 in
theorem last_c (B a : Nat) (c r t : Int) (sv : Value) (xs : List Nat) (w : World) (hT : Tab w) (hX : CBox w B a c sv r t) (hF : Fls w sv xs) :
    Calls Tryd.prog 59 #[.pointer (some ⟨B, 0, none⟩)] w fun e w' => e = .returned (fl (getN c xs r t c c)) ∧ Below w.heap.size w w' := by
  have x0 := hX.c0
  go_enter Tryd.func59, Tryd.ntmps59
  go_wp2_with fail
  refine (entry_c B a c r t c _ xs _ hT hX hF).mono ?_
  rintro e w1 ⟨rfl, hb⟩
  go_wp2
  go_ret
  exact ⟨rfl, hb⟩
end Go.Proofs.YtbkmpoeaindnaaaDoor
