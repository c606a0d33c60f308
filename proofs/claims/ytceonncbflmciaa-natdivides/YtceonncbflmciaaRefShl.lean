/- levellingref02.Shl. -/
import Derived.Test.YtceonncbflmciaaRefAdd
namespace Go.Proofs.Ytceonncbflmciaa
open Go.RowKit Go.Shelf

theorem made_own (w : World) (n m : Nat) (hnm : n ≤ m) (hm : m ≤ 1000000) :
    Own (w.alloc (.cells (madeCells #[Value.int .u32 0] m) 42)) w.heap.size (.slice (some ⟨w.heap.size, 0, none⟩) n m) (List.replicate n 0) := by
  have hc : (madeCells #[Value.int .u32 0] m).toList = List.replicate m (dv 0) := by
    rw [toList_madeCells_one]; simp [dv]
  refine ⟨small_replicate n, by simp; omega, ?_⟩
  refine ⟨by simp, .inr ⟨w.heap.size, m, _, by simp, Nat.le_refl _, World.alloc_heap_new w _, by simpa using hnm, by unfold maxLen; omega, ?_, ?_⟩⟩
  · rw [← Array.length_toList, hc]; simp
  · rw [hc]; simp [List.take_replicate, Nat.min_eq_left hnm]

theorem shl_wrap (p x c : Nat) (hp : p < 32) (hx : x < 4294967296) (hc : c < 2 ^ p) : IntKind.u64.wrap (IntKind.u64.wrap ((x : Int) * 2 ^ p) + (c : Int)) = ((x * 2 ^ p + c : Nat) : Int) ∧ x * 2 ^ p + c < 18446744073709551616 := by
  have h1 : (2 : Nat) ^ p ≤ 2 ^ 32 := Nat.pow_le_pow_right (by omega) (by omega)
  have h2 : x * 2 ^ p ≤ 4294967295 * 2 ^ p := Nat.mul_le_mul_right _ (by omega)
  have h4 : x * 2 ^ p + c < 18446744073709551616 := by omega
  have e : ((x : Int) * 2 ^ p) = ((x * 2 ^ p : Nat) : Int) := by simp
  refine ⟨?_, h4⟩
  rw [e, IntKind.wrap_u64, IntKind.wrap_u64]
  omega

set_option maxHeartbeats 1000000 in
theorem rshl_no (va : Value) (A : List Nat) (k : Int) (w : World) (hA : Digs w va A) (hk : k < 0 ∨ 100000 < k) :
    Calls Try.prog 17 #[va, .int .i64 k] w fun e w' => e = .returned (.slice none 0 0) ∧ w' = w := by
  obtain ⟨aa, ca, rfl, hca⟩ := hA.shape
  rcases hk with hk | hk
  · go_enter Try.func17, Try.ntmps17
    go_wp2
    go_ret
    exact ⟨rfl, rfl⟩
  · have hk2 : ¬ k < 0 := by omega
    go_enter Try.func17, Try.ntmps17
    go_wp2
    go_ret
    exact ⟨rfl, rfl⟩

set_option maxRecDepth 100000 in
set_option maxHeartbeats 4000000 in
/-- levellingref02.Shl. -/
theorem rshl_c (va : Value) (A : List Nat) (k : Nat) (w : World) (hA : Digs w va A) (hla : A.length ≤ 100000) (hk : k ≤ 100000) :
    Calls Try.prog 17 #[va, .int .i64 (k : Int)] w fun e w' => (∃ v, e = .returned v ∧ Res w' v (val A * 2 ^ k)) ∧ Below w.heap.size w w' := by
  obtain ⟨i0, hi, hz0, hz1, hz2⟩ := info_parts Try.info42
  obtain ⟨aa, ca, rfl, hca⟩ := hA.shape
  have sA := hA.1
  have HN : Hid (val A * 2 ^ k = val A * 2 ^ k) := rfl
  obtain ⟨N, hN⟩ : ∃ N, val A * 2 ^ k = N := ⟨_, rfl⟩
  rw [hN]
  rw [hN] at HN
  have HN2 : Hid (val A * 2 ^ k = N) := hN
  clear hN HN
  go_enter Try.func17, Try.ntmps17
  go_wp2_with (at_make; refine wpList_make_lc _ rfl _ _ 22 rfl 42 i0 (.int .u32 0) Try.underlying22 hi hz0 hz1 _ _ _ _ (k / 32) (k / 32) rfl rfl (by omega) (by omega) (by omega) (by rw [hz2]; omega) (by omega) ?_)
  have ho := made_own w (k / 32) (k / 32) (by omega) (by omega)
  have hbel : Below w.heap.size w (w.alloc (.cells (madeCells #[Value.int .u32 0] (k / 32)) 42)) := Below.alloc (Below.refl _ _) (Nat.le_refl _) _
  generalize w.alloc (.cells (madeCells #[Value.int .u32 0] (k / 32)) 42) = w4 at *
  go_loopw [5, 6, 7] (fun o c i wr => ∃ (j cn : Nat) (ds : List Nat), j ≤ A.length ∧ i = .int .i64 (j : Int) ∧ c = .int .u64 (cn : Int) ∧ Hid (cn < 2 ^ (k % 32)) ∧ Hid (ds.length = k / 32 + j) ∧ Hid (val ds + 4294967296 ^ (k / 32 + j) * cn = val (A.take j) * 2 ^ k) ∧ Own wr w.heap.size o ds ∧ Below w.heap.size w wr)
    (fun _ _ i _ => A.length - (intOf i).toNat)
  case atStart => exact ⟨0, 0, _, Nat.zero_le _, rfl, rfl, Nat.pow_pos (by omega), by show _ = _; simp, by show _ = _; simp [val, val_replicate], ho, hbel⟩
  case round =>
    obtain ⟨j, cn, ds, hj, rfl, rfl, HC, HD, HV, hor, hbr⟩ := hrel
    have hdl : ds.length + 1 ≤ 1000000 := by rw [HD.out]; omega
    have hs0 := hbr.size
    have hrow := hor.2.2
    have hcs : cn < 4294967296 := Nat.lt_of_lt_of_le HC.out (Nat.le_trans (Nat.pow_le_pow_right (by omega) (show k % 32 ≤ 32 by omega)) (by omega))
    by_cases hjl : j < A.length
    · obtain ⟨b1, o1, c1, e1, hb1, hc1⟩ := hA.cell (by omega)
      obtain ⟨rfl, rfl⟩ : aa = some ⟨b1, o1, none⟩ ∧ ca = c1 := by simpa using e1
      have hx1 := (hbr.cell (p := ⟨b1, o1 + j, none⟩) hb1).trans (hc1 j hjl)
      obtain ⟨x, hx⟩ : ∃ x, A[j]?.getD 0 = x := ⟨_, rfl⟩
      have hxs : x < 4294967296 := by rw [← hx]; exact small_getD sA j
      rw [hx] at hx1
      have HX : Hid (A[j]?.getD 0 = x) := hx
      clear hx hc1 e1
      have hw := shl_wrap (k % 32) x cn (by omega) hxs HC.out
      have HS := up_step HD.out HX.out HV.out
      have HC2 := up_carry hxs HC.out
      have HS' : Hid _ := HS
      have HC' : Hid _ := HC2
      clear HS HC2
      have hSb : x * 2 ^ (k % 32) + cn < 18446744073709551616 := hw.2
      replace hw := hw.1
      generalize x * 2 ^ (k % 32) + cn = S at *
      go_wp2_with (at_builtin; refine wpList_append_own _ rfl _ _ 22 rfl w.heap.size 42 i0 (.int .u32 0) 1 4 Try.underlying22 hi hz0 hz1 hz2 rfl (by decide) _ _ _ rfl (hrow.alloc _) ⟨wr.heap.size, 0, none⟩ 1 1 [_] rfl rfl (cell_one_new _ _ _) (by simp [Value.oneCell']) (by unfold maxLen; omega) (by omega) (by simp; omega) ?_; intro v' w1 hown' hgrow _)
      go_roundw
      case rel =>
        obtain ⟨hO, hB2⟩ := app_fin (d := S % 4294967296) hor hbr hs0 hown' hgrow (by omega) (Nat.mod_lt _ (by omega)) hdl
        refine ⟨j + 1, S / 4294967296, _, by omega, by go_num, congrArg (Value.int .u64) (by omega), HC'.out, ?_, HS'.out, hO, hB2⟩
        show _ = _
        rw [List.length_append, HD.out]; rfl
      case measure => simp [intOf]; omega
    · obtain rfl : j = A.length := by omega
      go_wp2_with (at_builtin; refine wpList_append_own _ rfl _ _ 22 rfl w.heap.size 42 i0 (.int .u32 0) 1 4 Try.underlying22 hi hz0 hz1 hz2 rfl (by decide) _ _ _ rfl (hrow.alloc _) ⟨wr.heap.size, 0, none⟩ 1 1 [_] rfl rfl (cell_one_new _ _ _) (by simp [Value.oneCell']) (by unfold maxLen; omega) (by omega) (by simp; omega) ?_; intro v' w1 hown' hgrow _)
      obtain ⟨hO, hB2⟩ := app_fin (d := cn) hor hbr hs0 hown' hgrow (by omega) hcs hdl
      refine (rtrim_c _ (ds ++ [cn]) _ hO.digs).mono ?_
      rintro e w6 ⟨⟨v6, rfl, h6⟩, hb6⟩
      go_wp2
      go_ret
      refine ⟨⟨_, rfl, _, h6, norm_trimL _, ?_⟩, hB2.trans (hb6.mono hB2.size)⟩
      have hv := HV.out
      rw [List.take_length] at hv
      rw [val_trimL, val_snoc, HD.out, hv, HN2.out]
end Go.Proofs.Ytceonncbflmciaa
