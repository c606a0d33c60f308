/- nat.From, nat.Check. -/
import Derived.Test.YtceonncbflmciaaLay
namespace Go.Proofs.Ytceonncbflmciaa
open Go.RowKit Go.Shelf

/-- The slice value v owns the digits of the number N, without zeros at their end. -/
def Num (W : World) (base : Nat) (v : Value) (N : Nat) : Prop := ∃ ds, Own W base v ds ∧ norm ds ∧ val ds = N

theorem Num.below {W W' : World} {base n : Nat} {v : Value} {N : Nat} (h : Num W base v N) (hb : Below n W W') (hn : W.heap.size ≤ n) : Num W' base v N := by
  obtain ⟨ds, h1, h2, h3⟩ := h
  exact ⟨ds, h1.below hb hn, h2, h3⟩
theorem Num.mono {W : World} {base base' : Nat} {v : Value} {N : Nat} (h : Num W base v N) (hb : base' ≤ base) : Num W base' v N := by
  obtain ⟨ds, h1, h2, h3⟩ := h
  exact ⟨ds, h1.mono hb, h2, h3⟩
theorem Own.num {W : World} {base : Nat} {v : Value} {ds : List Nat} {N : Nat} (h : Own W base v (trimL ds)) (hv : val ds = N) : Num W base v N :=
  ⟨_, h, norm_trimL _, by rw [val_trimL, hv]⟩
theorem Num.nil (W : World) (base : Nat) : Num W base (.slice none 0 0) 0 := ⟨[], Own.nil _ _, norm_nil, rfl⟩

/-- 'd := make(digits, 0, n)', d in a box. -/
theorem made_box {w w1 : World} {v : Value} (ho : w1.ownsRow w.heap.size 42 1 v 0 []) (hg : w.grownBy w1 none) :
    Own (w1.alloc (.cells #[v] 43)) w.heap.size v [] ∧ Boxed (w1.alloc (.cells #[v] 43)) w1.heap.size 43 v ∧ Below w.heap.size w (w1.alloc (.cells #[v] 43)) ∧ w.heap.size ≤ w1.heap.size := by
  have hb : Below w.heap.size w w1 := (Below.refl _ w).grown hg (Nat.le_refl _) (fun k e => by cases e)
  exact ⟨⟨small_nil, by simp, ho.alloc _⟩, Boxed.new _ _ _, hb.alloc hb.size _, hb.size⟩

theorem val_pair (x : Nat) (hx : x < 18446744073709551616) : val [x % 4294967296, x / 4294967296 % 4294967296] = x := by
  simp only [val]; omega

set_option maxHeartbeats 1000000 in
/-- nat.From(x). -/
theorem from_c (x : Nat) (hx : x < 18446744073709551616) (w : World) :
    Calls Try.prog 22 #[.int .u64 (x : Int)] w fun e w' => (∃ v, e = .returned v ∧ Num w' w.heap.size v x) ∧ Below w.heap.size w w' := by
  obtain ⟨i0, hi, hz0, hz1, hz2⟩ := info_parts Try.info42
  go_enter Try.func22, Try.ntmps22
  go_wp2_with (at_make; refine wpList_make_own _ rfl _ _ 43 rfl w.heap.size 42 i0 (.int .u32 0) 1 Try.underlying43 hi hz0 hz1 _ _ _ 2 rfl rfl (by omega) (by rw [hz2]; omega) (by unfold maxLen; omega) (Nat.le_refl _) ?_; intro w1 hown hgrow)
  obtain ⟨ho, hB, hbel, hsz⟩ := made_box hown hgrow
  refine (lay_c _ w1.heap.size w.heap.size _ [] x hB ho (by simp) hsz).mono ?_
  rintro e w2 ⟨rfl, ⟨v2, hB2, ho2⟩, hb2⟩
  go_wp2_with fail
  refine (lay_c _ w1.heap.size w.heap.size _ _ (x / 4294967296) hB2 ho2 (by simp) hsz).mono ?_
  rintro e w3 ⟨rfl, ⟨v3, hB3, ho3⟩, hb3⟩
  go_wp2_with fail
  refine (number_c _ w1.heap.size w.heap.size _ _ hB3 ho3).mono ?_
  rintro e w4 ⟨⟨v4, rfl, ho4⟩, hb4⟩
  go_wp2
  go_ret
  have hsz3 := hb3.size
  have hsz2 := hb2.size
  have hbb : Below w.heap.size w w4 := ((hbel.trans hb2).trans hb3).trans (hb4.mono (by have := hbel.size; omega))
  exact ⟨⟨_, rfl, ho4.num (val_pair x hx)⟩, hbb⟩
end Go.Proofs.Ytceonncbflmciaa
