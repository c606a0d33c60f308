/- tri.bounded: whether no float is too great. -/
import Derived.Test.YtbkmpoeaindnaaaDoorPow
namespace Go.Proofs.YtbkmpoeaindnaaaDoor
open Go.RowKit Go.Shelf

/-- Whether a float's size is at most 2^420. -/
def leH (x : Nat) : Bool := FloatKind.f64.format.order (x % 9223372036854775808) 6498694262295625728 == some .lt || FloatKind.f64.format.order (x % 9223372036854775808) 6498694262295625728 == some .eq

theorem all_take_succ {p : Nat → Bool} {xs : List Nat} {k : Nat} (hk : k < xs.length) (h : (xs.take k).all p = true) (hx : p (xs[k]?.getD 0) = true) : (xs.take (k + 1)).all p = true := by
  rw [List.take_succ_eq_append_getElem hk]
  simp only [List.all_append, h, Bool.true_and, List.all_cons, List.all_nil, Bool.and_true]
  simpa [hk] using hx
theorem all_false_at {p : Nat → Bool} {xs : List Nat} {k : Nat} (hk : k < xs.length) (hx : p (xs[k]?.getD 0) = false) : xs.all p = false := by
  rw [List.all_eq_false]
  exact ⟨xs[k], List.getElem_mem hk, by simpa [hk] using hx⟩

set_option maxRecDepth 100000 in
set_option maxHeartbeats 1000000 in
theorem bounded_c (sv : Value) (xs : List Nat) (w : World) (hT : Tab w) (hF : Fls w sv xs) :
    Calls Tryd.prog 56 #[sv] w fun e w' => e = .returned (.bool (xs.all leH)) ∧ Below w.heap.size w w' := by
  obtain ⟨a, cap, rfl, hcap⟩ := hF.shape
  have hl := hF.2.1
  go_enter Tryd.func56, Tryd.ntmps56
  go_wp2_with (go_at_call 75; refine (pow_c _ hT).mono ?_; rintro e w' ⟨rfl, rfl⟩)
  go_loop [9] (fun i => ∃ k : Nat, k ≤ xs.length ∧ i = .int .i64 (k : Int) ∧ (xs.take k).all leH = true) (fun i => xs.length - (intOf i).toNat)
  case atStart => exact ⟨0, Nat.zero_le _, by simp, by simp⟩
  case round =>
    obtain ⟨k, hk, rfl, hall⟩ := hrel
    have HA : Hid ((xs.take k).all leH = true) := hall
    clear hall
    by_cases hlt : k < xs.length
    · obtain ⟨b, off, cap', e, hb, hc', hcs⟩ := hF.cell (by omega)
      cases e
      have hck := hcs k hlt
      have hok := okF_getD hF.1 k
      obtain ⟨x, hx⟩ : ∃ x, xs[k]?.getD 0 = x := ⟨_, rfl⟩
      rw [hx] at hck hok
      have HX : Hid (xs[k]?.getD 0 = x) := hx
      clear hx hcs
      cases hle : leH x with
      | true =>
        have hle' : (FloatKind.f64.format.order (x % 9223372036854775808) 6498694262295625728 == some .lt || FloatKind.f64.format.order (x % 9223372036854775808) 6498694262295625728 == some .eq) = true := hle
        go_wp2_with (go_at_call 41; refine (abs_c x hok _).mono ?_; rintro e w' ⟨rfl, rfl⟩)
        go_round
        case rel => exact ⟨k + 1, by omega, by go_num, all_take_succ hlt HA.out (by rw [HX.out]; exact hle)⟩
        case measure => simp [intOf]; omega
      | false =>
        have hle' : (FloatKind.f64.format.order (x % 9223372036854775808) 6498694262295625728 == some .lt || FloatKind.f64.format.order (x % 9223372036854775808) 6498694262295625728 == some .eq) = false := hle
        have HE : Hid (xs.all leH = false) := all_false_at hlt (by rw [HX.out]; exact hle)
        go_wp2_with (go_at_call 41; refine (abs_c x hok _).mono ?_; rintro e w' ⟨rfl, rfl⟩)
        go_ret
        exact ⟨ret_bool HE.out.symm, Below.refl _ _⟩
    · obtain rfl : k = xs.length := by omega
      go_wp2
      go_ret
      exact ⟨ret_bool (by have := HA.out; rw [List.take_length] at this; exact this.symm), Below.refl _ _⟩
end Go.Proofs.YtbkmpoeaindnaaaDoor
