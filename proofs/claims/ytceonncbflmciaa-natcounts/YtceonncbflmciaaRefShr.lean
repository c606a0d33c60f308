/- levellingref02.Shr. -/
import Derived.Test.YtceonncbflmciaaRefShl
import Derived.Deep.QuietTactic
namespace Go.Proofs.Ytceonncbflmciaa
open Go.RowKit Go.Shelf

set_option maxHeartbeats 1000000 in
theorem rshr_no (va : Value) (A : List Nat) (k : Int) (w : World) (hA : Digs w va A) (hk : k < 0 ∨ 100000 < k) :
    Calls Try.prog 10 #[va, .int .i64 k] w fun e w' => e = .returned (.tuple #[.slice none 0 0, .bool false]) ∧ w' = w := by
  obtain ⟨aa, ca, rfl, hca⟩ := hA.shape
  rcases hk with hk | hk
  · go_enter Try.func10, Try.ntmps10
    go_wp2
    go_ret2
    exact ⟨rfl, rfl⟩
  · have hk2 : ¬ k < 0 := by omega
    go_enter Try.func10, Try.ntmps10
    go_wp2
    go_ret2
    exact ⟨rfl, rfl⟩

theorem take_snoc_getD {l : List Nat} {j : Nat} (h : j < l.length) : l.take (j + 1) = l.take j ++ [l[j]?.getD 0] := by
  rw [List.take_succ_eq_append_getElem h]; simp [h]

theorem shr_wrap (p x y : Nat) : (((x : Int) * 4294967296 + (y : Int)) / 2 ^ p) = ((two x y / 2 ^ p : Nat) : Int) := by
  unfold two
  simp

set_option maxRecDepth 100000 in
set_option maxHeartbeats 4000000 in
/-- levellingref02.Shr. -/
theorem rshr_c (va : Value) (A : List Nat) (k : Nat) (w : World) (hA : Digs w va A) (hla : A.length ≤ 50000) (hk : k ≤ 100000) :
    Calls Try.prog 10 #[va, .int .i64 (k : Int)] w fun e w' => (∃ v, e = .returned (.tuple #[v, .bool (decide (val A % 2 ^ k = 0))]) ∧ Res w' v (val A / 2 ^ k)) ∧ Below w.heap.size w w' := by
  obtain ⟨i0, hi, hz0, hz1, hz2⟩ := info_parts Try.info42
  obtain ⟨aa, ca, rfl, hca⟩ := hA.shape
  have sA := hA.1
  obtain ⟨E, hE⟩ : ∃ E, decide (val A % 2 ^ k = 0) = E := ⟨_, rfl⟩
  obtain ⟨N, hN⟩ : ∃ N, val A / 2 ^ k = N := ⟨_, rfl⟩
  rw [hE, hN]
  have HE : Hid (decide (val A % 2 ^ k = 0) = E) := hE
  have HN : Hid (val A / 2 ^ k = N) := hN
  clear hE hN
  obtain ⟨Z, hZ⟩ : ∃ Z, shrL (k % 32) (A.drop (k / 32)) = Z := ⟨_, rfl⟩
  have hZl : Z.length = A.length - k / 32 := by rw [← hZ, shrL_length]; simp
  have HZ : Hid (shrL (k % 32) (A.drop (k / 32)) = Z) := hZ
  have HZL : Hid (Z.length = A.length - k / 32) := hZl
  clear hZ hZl
  go_enter Try.func10, Try.ntmps10
  go_wp2_with fail
  go_loopw [6, 7] (fun o i wr => ∃ (j : Nat) (ds : List Nat), (j = 0 ∨ k / 32 + j ≤ A.length) ∧ i = .int .i64 ((k / 32 + j : Nat) : Int) ∧ Hid (ds = Z.take j) ∧ Own wr w.heap.size o ds ∧ Below w.heap.size w wr)
    (fun _ i _ => A.length - (intOf i).toNat)
  case atStart => exact ⟨0, [], .inl rfl, by go_num, rfl, Own.nil _ _, Below.refl _ _⟩
  case round =>
    obtain ⟨j, ds, hj, rfl, HD, hor, hbr⟩ := hrel
    have hs0 := hbr.size
    have hrow := hor.2.2
    by_cases hjl : k / 32 + j < A.length
    · obtain ⟨b1, o1, c1, e1, hb1, hc1⟩ := hA.cell (by omega)
      obtain ⟨rfl, rfl⟩ : aa = some ⟨b1, o1, none⟩ ∧ ca = c1 := by simpa using e1
      have hdl : ds.length + 1 ≤ 1000000 := by rw [HD.out]; simp; omega
      have hx1 := (hbr.cell (p := ⟨b1, o1 + (k / 32 + j), none⟩) hb1).trans (hc1 _ hjl)
      obtain ⟨x, hx⟩ : ∃ x, A[k / 32 + j]?.getD 0 = x := ⟨_, rfl⟩
      obtain ⟨y, hy⟩ : ∃ y, A[k / 32 + j + 1]?.getD 0 = y := ⟨_, rfl⟩
      have hxs : x < 4294967296 := by rw [← hx]; exact small_getD sA _
      have hys : y < 4294967296 := by rw [← hy]; exact small_getD sA _
      rw [hx] at hx1
      have HX : Hid (A[k / 32 + j]?.getD 0 = x) := hx
      have HY : Hid (A[k / 32 + j + 1]?.getD 0 = y) := hy
      have hA' := hA.below hbr (Nat.le_refl _)
      have hat : ∀ W : World, W.heap = wr.heap → Calls Try.prog 32 #[.slice (some ⟨b1, o1, none⟩) A.length ca, .int .i64 (((k / 32 + j : Nat) : Int) + 1)] W fun e w' => e = .returned (.int .u64 (y : Int)) ∧ w' = W := by
        intro W hW
        rw [← hy, show (((k / 32 + j : Nat) : Int) + 1) = ((k / 32 + j + 1 : Nat) : Int) by omega]
        refine at_c _ A _ W ⟨hA'.1, hA'.2.1, ?_⟩
        rcases hA'.2.2 with h | ⟨b, o, c, e, h1, h2⟩
        · exact .inl h
        · refine .inr ⟨b, o, c, e, h1, fun j hj => ?_⟩
          have := h2 j hj
          unfold World.cell? at this ⊢
          rw [hW]; exact this
      have HAT : Hid (∀ W : World, W.heap = wr.heap → Calls Try.prog 32 #[.slice (some ⟨b1, o1, none⟩) A.length ca, .int .i64 (((k / 32 + j : Nat) : Int) + 1)] W fun e w' => e = .returned (.int .u64 (y : Int)) ∧ w' = W) := hat
      clear hx hy hc1 e1 hat hA'
      have hZj : j < Z.length := by rw [HZL.out]; omega
      have HG : Hid (Z[j]?.getD 0 = two y x / 2 ^ (k % 32) % 4294967296) := by
        show _ = _
        rw [← HZ.out, shrL_get _ _ _ (by rw [← shrL_length (k % 32), HZ.out]; exact hZj), getD_drop, getD_drop, ← Nat.add_assoc, HX.out, HY.out]
        rfl
      have HZj : Hid (j < Z.length) := hZj
      clear hZj
      generalize hij : k / 32 + j = i at *
      have HIJ : Hid (k / 32 + j = i) := hij
      clear hij
      go_wp2_with fail
      go_quiet ((go_at_call 32; refine Calls.quiet_of_same (HAT.out _ ?_); simp))
      rw [shr_wrap]
      generalize two y x / 2 ^ (k % 32) = T at *
      have hbd := below_drewN (Below.refl wr.heap.size wr) nq
      have hor2 := hor.below hbd (Nat.le_refl _)
      have hbr2 := below_drewN hbr nq
      have hrow2 := hor2.2.2
      have hs2 := hbr2.size
      generalize wr.drewN nq = wd at *
      go_wp2_with (at_builtin; refine wpList_append_own _ rfl _ _ 22 rfl w.heap.size 42 i0 (.int .u32 0) 1 4 Try.underlying22 hi hz0 hz1 hz2 rfl (by decide) _ _ _ rfl (hrow2.alloc _) ⟨wd.heap.size, 0, none⟩ 1 1 [_] rfl rfl (cell_one_new _ _ _) (by simp [Value.oneCell']) (by unfold maxLen; omega) (by omega) (by simp; omega) ?_; intro v' w1 hown' hgrow _)
      go_roundw
      case rel =>
        obtain ⟨hO, hB2⟩ := app_fin (d := T % 4294967296) hor2 hbr2 hs2 hown' hgrow (by omega) (Nat.mod_lt _ (by omega)) hdl
        have h1 := HIJ.out
        refine ⟨j + 1, _, .inr (by omega), congrArg (Value.int .i64) (by omega), ?_, hO, hB2⟩
        show _ = _
        rw [take_snoc_getD HZj.out, HG.out, HD.out]
      case measure => simp [intOf]; omega
    · have hjl2 : A.length ≤ k / 32 + j := by omega
      have hds : ds = Z := by rw [HD.out, List.take_of_length_le]; rw [HZL.out]; omega
      subst hds
      have HVZ : Hid (val ds = N) := by
        show _ = _
        rw [← HZ.out, ← HN.out]
        by_cases hkl : k / 32 ≤ A.length
        · exact shr_val A k sA hkl
        · rw [List.drop_eq_nil_of_le (by omega)]
          have h1 := val_lt sA
          have h2 : 4294967296 ^ A.length ≤ 2 ^ k := by rw [B_pow]; exact Nat.pow_le_pow_right (by omega) (by omega)
          rw [Nat.div_eq_of_lt (by omega)]
          rfl
      have hdl : ds.length ≤ 100000 := by rw [HZL.out]; omega
      have hA' := hA.below hbr (Nat.le_refl _)
      have HB : Hid ((ordN (N * 2 ^ k) (val A) == 0) = E) := by
        show _ = _
        have h1 := Nat.div_add_mod (val A) (2 ^ k)
        rw [← HE.out, ← HN.out, Nat.mul_comm]
        by_cases h0 : val A % 2 ^ k = 0
        · rw [show 2 ^ k * (val A / 2 ^ k) = val A by omega, ordN_eq]; simp [h0]
        · rw [ordN_lt (by omega)]; simp [h0]
      generalize k / 32 + j = i at *
      go_wp2_with fail
      refine (rtrim_c _ ds _ hor.digs).mono ?_
      rintro e w6 ⟨⟨v6, rfl, h6⟩, hb6⟩
      go_wp2_with fail
      refine (rshl_c _ (trimL ds) k _ h6 (by rw [length_trimL]; have := sizeL_le ds; omega) hk).mono ?_
      rintro e w7 ⟨⟨v7, rfl, d7, h7, n7, e7'⟩, hb7⟩
      have e7 : Hid (val d7 = N * 2 ^ k) := by show _ = _; rw [e7', val_trimL, HVZ.out]
      clear e7'
      have hA7 := (hA'.below hb6 (Nat.le_refl _)).below hb7 (Nat.le_refl _)
      go_wp2_with fail
      refine (rcmp_c _ _ d7 A _ h7 hA7).mono ?_
      rintro e w8 ⟨rfl, hb8⟩
      rw [e7.out]
      have hbe := HB.out
      generalize ordN (N * 2 ^ k) (val A) = O at *
      go_wp2
      go_ret2
      have hs6 := hb6.size
      have hs7 := hb7.size
      have hbb : Below wr.heap.size wr w8 := (hb6.trans (hb7.mono hs6)).trans (hb8.mono (by omega))
      refine ⟨⟨_, ?_, trimL ds, (h6.below hb7 (Nat.le_refl _)).below hb8 (Nat.le_refl _), norm_trimL _, by rw [val_trimL, HVZ.out]⟩, hbr.trans (hbb.mono hs0)⟩
      rw [← hbe]
      rfl
end Go.Proofs.Ytceonncbflmciaa
