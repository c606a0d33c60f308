/- levellingref02.Sub. -/
import Derived.Test.YtceonncbflmciaaRefAdd
namespace Go.Proofs.Ytceonncbflmciaa
open Go.RowKit Go.Shelf

theorem rsub_step {X Y ds : List Nat} {k c x y : Nat} (hX : X[k]?.getD 0 = x) (hY : Y[k]?.getD 0 = y) (hx : x < 4294967296) (hy : y < 4294967296) (hc : c ≤ 1) (hl : ds.length = k) (hv : val ds + val (Y.take k) = val (X.take k) + 4294967296 ^ k * c) :
    val (ds ++ [(x + 4294967296 - y - c) % 4294967296]) + val (Y.take (k + 1)) = val (X.take (k + 1)) + 4294967296 ^ (k + 1) * (1 - (x + 4294967296 - y - c) / 4294967296) := by
  have hb : (x + 4294967296 - y - c) % 4294967296 + y + c = x + 4294967296 * (1 - (x + 4294967296 - y - c) / 4294967296) := by omega
  rw [val_snoc, val_take_succ, val_take_succ, hl, hX, hY, Nat.pow_succ, Nat.mul_assoc]
  generalize (x + 4294967296 - y - c) % 4294967296 = d at *
  generalize 1 - (x + 4294967296 - y - c) / 4294967296 = q at *
  have h2 : 4294967296 ^ k * (d + y + c) = 4294967296 ^ k * (x + 4294967296 * q) := by rw [hb]
  rw [Nat.mul_add, Nat.mul_add, Nat.mul_add] at h2
  omega

theorem rsub_end {X Y ds : List Nat} {k c : Nat} (hsd : small ds) (hl : ds.length = k) (h1 : X.length ≤ k) (h2 : Y.length ≤ k) (hle : val Y ≤ val X) (hc : c ≤ 1) (hv : val ds + val (Y.take k) = val (X.take k) + 4294967296 ^ k * c) : val ds = val X - val Y := by
  have h3 := val_lt hsd
  rw [hl] at h3
  rw [List.take_of_length_le h1, List.take_of_length_le h2] at hv
  rcases Nat.le_one_iff_eq_zero_or_eq_one.1 hc with rfl | rfl
  · omega
  · omega

set_option maxRecDepth 100000 in
set_option maxHeartbeats 4000000 in
theorem rsub_no (va vb : Value) (A B : List Nat) (w : World) (hA : Digs w va A) (hB : Digs w vb B) (hlt : val A < val B) :
    Calls Try.prog 8 #[va, vb] w fun e w' => e = .returned (.tuple #[.slice none 0 0, .bool false]) ∧ Below w.heap.size w w' := by
  have ho : ordN (val A) (val B) < 0 := by rw [ordN_lt hlt]; omega
  obtain ⟨aa, ca, rfl, hca⟩ := hA.shape
  obtain ⟨ab, cb, rfl, hcb⟩ := hB.shape
  go_enter Try.func8, Try.ntmps8
  go_wp2_with fail
  refine (rcmp_c _ _ A B _ hA hB).mono ?_
  rintro e w' ⟨rfl, hb⟩
  go_wp2
  go_ret2
  exact ⟨rfl, hb⟩

set_option maxRecDepth 100000 in
set_option maxHeartbeats 4000000 in
theorem rsub_yes (va vb : Value) (A B : List Nat) (w : World) (hA : Digs w va A) (hB : Digs w vb B) (hla : A.length ≤ 100000) (hlb : B.length ≤ 100000) (hge : val B ≤ val A) :
    Calls Try.prog 8 #[va, vb] w fun e w' => (∃ v, e = .returned (.tuple #[v, .bool true]) ∧ Res w' v (val A - val B)) ∧ Below w.heap.size w w' := by
  have ho : ¬ ordN (val A) (val B) < 0 := by
    rcases Nat.lt_or_eq_of_le hge with h | h
    · rw [ordN_gt h]; omega
    · rw [h, ordN_eq]; omega
  obtain ⟨i0, hi, hz0, hz1, hz2⟩ := info_parts Try.info42
  obtain ⟨aa, ca, rfl, hca⟩ := hA.shape
  obtain ⟨ab, cb, rfl, hcb⟩ := hB.shape
  have sA := hA.1
  have sB := hB.1
  obtain ⟨M, hM1, hM2, hM3, hM4⟩ : ∃ M, A.length ≤ M ∧ B.length ≤ M ∧ M ≤ 100000 ∧ Hid (M = A.length ∨ M = B.length) := ⟨max A.length B.length, by omega, by omega, by omega, by show _ ∨ _; omega⟩
  go_enter Try.func8, Try.ntmps8
  go_wp2_with fail
  refine (rcmp_c _ _ A B _ hA hB).mono ?_
  rintro e w0 ⟨rfl, hb0⟩
  have hA0 := hA.below hb0 (Nat.le_refl _)
  have hB0 := hB.below hb0 (Nat.le_refl _)
  clear hA hB
  go_wp2_with fail
  go_loopw [6, 7, 8] (fun o c i wr => ∃ (k cn : Nat) (ds : List Nat), k ≤ M ∧ i = .int .i64 (k : Int) ∧ c = .int .u64 (cn : Int) ∧ cn ≤ 1 ∧ Hid (ds.length = k) ∧ Hid (val ds + val (B.take k) = val (A.take k) + 4294967296 ^ k * cn) ∧ Own wr w0.heap.size o ds ∧ Below w0.heap.size w0 wr)
    (fun _ _ i _ => M - (intOf i).toNat)
  case atStart => exact ⟨0, 0, [], by omega, rfl, rfl, by omega, rfl, by show _ = _; simp [val], Own.nil _ _, Below.refl _ _⟩
  case round =>
    obtain ⟨k, cn, ds, hk, rfl, rfl, hcn, HD, HV, ho1, hb⟩ := hrel
    have hs0 := hb.size
    obtain ⟨x, hx⟩ : ∃ x, A[k]?.getD 0 = x := ⟨_, rfl⟩
    obtain ⟨y, hy⟩ : ∃ y, B[k]?.getD 0 = y := ⟨_, rfl⟩
    have hxs : x < 4294967296 := by rw [← hx]; exact small_getD sA k
    have hys : y < 4294967296 := by rw [← hy]; exact small_getD sB k
    have HX : Hid (A[k]?.getD 0 = x) := hx
    have HY : Hid (B[k]?.getD 0 = y) := hy
    have hdl : ds.length + 1 ≤ 1000000 := by rw [HD.out]; omega
    have hrow := ho1.2.2
    clear hx hy
    have hA' := hA0.below hb (Nat.le_refl _)
    have hB' := hB0.below hb (Nat.le_refl _)
    by_cases hex : k < A.length ∨ (¬ k < A.length ∧ k < B.length)
    · rcases hex with h | ⟨h, h'⟩
      all_goals
        go_wp2_with fail
        refine (at_c _ A k _ hA').mono ?_
        rintro e w5 ⟨rfl, rfl⟩
        rw [HX.out]
        go_wp2_with fail
        refine (at_c _ B k _ hB').mono ?_
        rintro e w5 ⟨rfl, rfl⟩
        rw [HY.out]
        go_wp2_with (at_builtin; refine wpList_append_own _ rfl _ _ 22 rfl w0.heap.size 42 i0 (.int .u32 0) 1 4 Try.underlying22 hi hz0 hz1 hz2 rfl (by decide) _ _ _ rfl (hrow.alloc _) ⟨w5.heap.size, 0, none⟩ 1 1 [_] rfl rfl (cell_one_new _ _ _) (by simp [Value.oneCell']) (by unfold maxLen; omega) (by omega) (by simp; omega) ?_; intro v' w1 hown' hgrow _)
        go_roundw
        case rel =>
          obtain ⟨hO, hB2⟩ := app_fin (d := (x + 4294967296 - y - cn) % 4294967296) ho1 hb hs0 hown' hgrow (by omega) (Nat.mod_lt _ (by omega)) hdl
          refine ⟨k + 1, 1 - (x + 4294967296 - y - cn) / 4294967296, _, by omega, by go_num, congrArg (Value.int .u64) (by omega), by omega, ?_, rsub_step HX.out HY.out hxs hys hcn HD.out HV.out, hO, hB2⟩
          show _ = _
          rw [List.length_append, HD.out]; rfl
        case measure => simp [intOf]; omega
    · have hk1 : ¬ k < A.length := by omega
      have hk3 : ¬ k < B.length := by omega
      clear hex
      go_wp2_with fail
      refine (rtrim_c _ ds _ ho1.digs).mono ?_
      rintro e w6 ⟨⟨v6, rfl, h6⟩, hb6⟩
      go_wp2
      go_ret2
      have hs1 := hb0.size
      exact ⟨⟨_, rfl, trimL ds, h6, norm_trimL _, by rw [val_trimL]; exact rsub_end ho1.1 HD.out (by omega) (by omega) hge hcn HV.out⟩, (hb0.trans (hb.mono hs1)).trans (hb6.mono (by omega))⟩
end Go.Proofs.Ytceonncbflmciaa
