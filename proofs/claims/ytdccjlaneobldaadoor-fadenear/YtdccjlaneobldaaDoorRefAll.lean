/- levellingref01.All: are two lists the same? -/
import Derived.Test.YtdccjlaneobldaaDoorRefSplit
namespace Go.Proofs.YtdccjlaneobldaaDoor
open Go.RowKit Go.Shelf

def allSame : List Nat → List Nat → Bool
  | [], [] => true
  | x :: xs, y :: ys => sameB x y && allSame xs ys
  | _, _ => false
theorem allSame_refl : ∀ xs, allSame xs xs = true
  | [] => rfl
  | x :: xs => by simp [allSame, sameB_refl, allSame_refl xs]
theorem allSame_len : ∀ {xs ys : List Nat}, xs.length ≠ ys.length → allSame xs ys = false
  | [], [], h => absurd rfl h
  | [], _ :: _, _ => rfl
  | _ :: _, [], _ => rfl
  | x :: xs, y :: ys, h => by simp only [allSame]; rw [allSame_len (by simpa using h)]; simp
theorem allSame_iff : ∀ {xs ys : List Nat}, xs.length = ys.length → (allSame xs ys = true ↔ ∀ j, j < xs.length → sameB (xs[j]?.getD 0) (ys[j]?.getD 0) = true)
  | [], [], _ => by simp [allSame]
  | x :: xs, y :: ys, h => by
    have ih := allSame_iff (xs := xs) (ys := ys) (by simpa using h)
    simp only [allSame, Bool.and_eq_true, ih]
    constructor
    · rintro ⟨h1, h2⟩ j hj
      cases j with
      | zero => simpa using h1
      | succ j => simpa using h2 j (by simpa using hj)
    · intro h'
      refine ⟨by simpa using h' 0 (by simp), fun j hj => by simpa using h' (j + 1) (by simpa using hj)⟩

set_option maxRecDepth 100000 in
set_option maxHeartbeats 2000000 in
theorem all_c (va vb : Value) (xs ys : List Nat) (w : World) (hX : Fls w va xs) (hY : Fls w vb ys) :
    Calls Tryd.prog 24 #[va, vb] w fun e w' => e = .returned (.bool (allSame xs ys)) ∧ Below w.heap.size w w' := by
  obtain ⟨a, cap, rfl, hcap⟩ := hX.shape
  obtain ⟨a', cap', rfl, hcap'⟩ := hY.shape
  have hl := hX.2.1
  have hl' := hY.2.1
  by_cases hlen : xs.length = ys.length
  · have hle : ((xs.length : Int) != (ys.length : Int)) = false := by simp; omega
    have HL : Hid (xs.length = ys.length) := hlen
    clear hlen
    go_enter Tryd.func24, Tryd.ntmps24
    go_wp2_with fail
    go_loopw [5] (fun i wr => ∃ k : Nat, k ≤ xs.length ∧ i = .int .i64 (k : Int) ∧ Hid (∀ j, j < k → sameB (xs[j]?.getD 0) (ys[j]?.getD 0) = true) ∧ Below w.heap.size w wr) (fun i _ => xs.length - (intOf i).toNat)
    case atStart => exact ⟨0, Nat.zero_le _, by simp, fun j hj => absurd hj (by omega), Below.refl _ _⟩
    case round =>
      obtain ⟨k, hk, rfl, HA, hB⟩ := hrel
      by_cases hlt : k < xs.length
      · have hlt' : k < ys.length := by rw [← HL.out]; exact hlt
        obtain ⟨b, off, cap1, e, hb, hc', hcs⟩ := hX.cell (by omega)
        cases e
        obtain ⟨b', off', cap1', e', hb', hc'', hcs'⟩ := hY.cell (by omega)
        cases e'
        have hck := (hB.cell (p := ⟨b, off + k, none⟩) hb).trans (hcs k hlt)
        have hck' := (hB.cell (p := ⟨b', off' + k, none⟩) hb').trans (hcs' k hlt')
        have hok := okF_getD hX.1 k
        have hok' := okF_getD hY.1 k
        obtain ⟨x, hx⟩ : ∃ x, xs[k]?.getD 0 = x := ⟨_, rfl⟩
        obtain ⟨y, hy⟩ : ∃ y, ys[k]?.getD 0 = y := ⟨_, rfl⟩
        rw [hx] at hck hok
        rw [hy] at hck' hok'
        have HX : Hid (xs[k]?.getD 0 = x) := hx
        have HY : Hid (ys[k]?.getD 0 = y) := hy
        clear hx hy hcs hcs'
        cases hsm : sameB x y with
        | true =>
          go_wp2_with fail
          go_quiet ((go_at_call 47; refine Calls.quiet_of_same (same_c x y hok hok' _)))
          go_wp2
          go_roundw
          case rel => exact ⟨k + 1, by omega, by go_num, fun j hj => (by
            rcases Nat.lt_or_ge j k with h | h
            · exact HA.out j h
            · obtain rfl : j = k := by omega
              rw [HX.out, HY.out]; exact hsm), below_drewN hB _⟩
          case measure => simp [intOf]; omega
        | false =>
          have HE : Hid (allSame xs ys = false) := by
            show _ = _
            rw [Bool.eq_false_iff]
            intro h
            have := (allSame_iff HL.out).1 h k hlt
            rw [HX.out, HY.out, hsm] at this
            cases this
          go_wp2_with fail
          go_quiet ((go_at_call 47; refine Calls.quiet_of_same (same_c x y hok hok' _)))
          go_wp2
          go_ret
          exact ⟨ret_bool HE.out.symm, below_drewN hB _⟩
      · obtain rfl : k = xs.length := by omega
        have HE : Hid (allSame xs ys = true) := (allSame_iff HL.out).2 HA.out
        go_wp2
        go_ret
        exact ⟨ret_bool HE.out.symm, hB⟩
  · have hle : ((xs.length : Int) != (ys.length : Int)) = true := by simp; omega
    have HE : Hid (allSame xs ys = false) := allSame_len hlen
    clear hlen
    go_enter Tryd.func24, Tryd.ntmps24
    go_wp2
    go_ret
    exact ⟨ret_bool HE.out.symm, Below.refl _ _⟩
end Go.Proofs.YtdccjlaneobldaaDoor
