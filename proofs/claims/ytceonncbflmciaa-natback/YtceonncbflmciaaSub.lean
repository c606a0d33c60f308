/- nat.Sub. -/
import Derived.Test.YtceonncbflmciaaCmp
namespace Go.Proofs.Ytceonncbflmciaa
open Go.RowKit Go.Shelf

/-- One more digit of a difference. -/
theorem sub_step {X Y ds : List Nat} {k c x y : Nat} (hX : X[k]?.getD 0 = x) (hY : Y[k]?.getD 0 = y) (hx : x < 4294967296) (hy : y < 4294967296) (hc : c ≤ 1) (hl : ds.length = k) (hv : val ds + val (Y.take k) = val (X.take k) + 4294967296 ^ k * c) :
    val (ds ++ [(x + 8589934592 - y - c) % 4294967296]) + val (Y.take (k + 1)) = val (X.take (k + 1)) + 4294967296 ^ (k + 1) * brw x y c := by
  have hb := brw_spec x y c hx hy hc
  rw [val_snoc, val_take_succ, val_take_succ, hl, hX, hY, Nat.pow_succ, Nat.mul_assoc]
  generalize (x + 8589934592 - y - c) % 4294967296 = d at *
  have h2 : 4294967296 ^ k * (d + y + c) = 4294967296 ^ k * (x + 4294967296 * brw x y c) := by rw [hb]
  rw [Nat.mul_add, Nat.mul_add, Nat.mul_add] at h2
  omega

theorem sub_end {X Y ds : List Nat} {c : Nat} (hsd : small ds) (hl : ds.length = X.length) (hyl : Y.length ≤ X.length) (hle : val Y ≤ val X) (hc : c ≤ 1) (hv : val ds + val (Y.take X.length) = val (X.take X.length) + 4294967296 ^ X.length * c) : val ds = val X - val Y := by
  have h1 := val_lt hsd
  rw [hl] at h1
  rw [List.take_length, List.take_of_length_le hyl] at hv
  rcases Nat.le_one_iff_eq_zero_or_eq_one.1 hc with rfl | rfl
  · omega
  · omega

theorem Own.app_mod {W : World} {n₀ : Nat} {v : Value} {ds : List Nat} {d : Nat} (h : Own W n₀ v (ds ++ [d % 4294967296])) (hd : d < 4294967296) : Own W n₀ v (ds ++ [d]) := by rwa [Nat.mod_eq_of_lt hd] at h

set_option maxRecDepth 100000 in
set_option maxHeartbeats 4000000 in
theorem sub_no (va vb : Value) (A B : List Nat) (w : World) (hA : Digs w va A) (hB : Digs w vb B) (hlt : val A < val B) :
    Calls Try.prog 7 #[va, vb] w fun e w' => e = .returned (.tuple #[.slice none 0 0, .bool false]) ∧ Below w.heap.size w w' := by
  have ho : ordN (val A) (val B) < 0 := by rw [ordN_lt hlt]; omega
  obtain ⟨aa, ca, rfl, hca⟩ := hA.shape
  obtain ⟨ab, cb, rfl, hcb⟩ := hB.shape
  go_enter Try.func7, Try.ntmps7
  go_wp2_with (go_at_call 23; refine (cmp_c _ _ _ _ _ hA hB).mono ?_; rintro e w' ⟨rfl, hb⟩)
  go_ret2
  exact ⟨rfl, hb⟩

set_option maxRecDepth 100000 in
set_option maxHeartbeats 4000000 in
theorem sub_yes (va vb : Value) (A B : List Nat) (w : World) (hA : Digs w va A) (hB : Digs w vb B) (hla : A.length ≤ 100000) (hlb : B.length ≤ 100000) (hge : val B ≤ val A) :
    Calls Try.prog 7 #[va, vb] w fun e w' => (∃ v, e = .returned (.tuple #[v, .bool true]) ∧ Num w' w.heap.size v (val A - val B)) ∧ Below w.heap.size w w' := by
  have ho : ¬ ordN (val A) (val B) < 0 := by
    rcases Nat.lt_or_eq_of_le hge with h | h
    · rw [ordN_gt h]; omega
    · rw [h, ordN_eq]; omega
  obtain ⟨i0, hi, hz0, hz1, hz2⟩ := info_parts Try.info42
  obtain ⟨aa, ca, rfl, hca⟩ := hA.shape
  obtain ⟨ab, cb, rfl, hcb⟩ := hB.shape
  have hX := hA.trim'
  have hY := hB.trim'
  have nX := norm_trimL A
  have nY := norm_trimL B
  have hlx : (trimL A).length ≤ 100000 := by rw [length_trimL]; have := sizeL_le A; omega
  have hly : (trimL B).length ≤ 100000 := by rw [length_trimL]; have := sizeL_le B; omega
  have HN : Hid (val (trimL A) - val (trimL B) = val A - val B) := by show _ = _; rw [val_trimL, val_trimL]
  have hge2 : val (trimL B) ≤ val (trimL A) := by rw [val_trimL, val_trimL]; exact hge
  have hyx : (trimL B).length ≤ (trimL A).length := by
    apply Classical.byContradiction
    intro h
    have := val_lt_len hX.1 nY (by omega)
    omega
  generalize val A - val B = N at *
  go_enter Try.func7, Try.ntmps7
  go_wp2_with fail
  refine (cmp_c _ _ _ _ _ hA hB).mono ?_
  rintro e w0 ⟨rfl, hb0⟩
  go_wp2_with fail
  have hA0 := hA.below hb0 (Nat.le_refl _)
  refine (trim_d _ _ _ _ hA0).mono ?_
  rintro e w1 ⟨rfl, hb1⟩
  go_wp2_with fail
  refine (trim_d _ _ _ _ ((hB.below hb0 (Nat.le_refl _)).below hb1 (Nat.le_refl _))).mono ?_
  rintro e w2 ⟨rfl, hb2⟩
  have hbw : Below w.heap.size w w2 := (hb0.trans (hb1.mono hb0.size)).trans (hb2.mono (by have := hb0.size; have := hb1.size; omega))
  clear hb1 hb2 hb0 hA0 ho hge
  generalize trimL A = X at *
  generalize trimL B = Y at *
  go_wp2_with (at_make; refine wpList_make_own _ rfl _ _ 43 rfl w2.heap.size 42 i0 (.int .u32 0) 1 Try.underlying43 hi hz0 hz1 _ _ _ X.length rfl rfl (by omega) (by rw [hz2]; omega) (by unfold maxLen; omega) (Nat.le_refl _) ?_; intro w3 hown hgrow)
  obtain ⟨ho, hBx, hbel, hsz⟩ := made_box hown hgrow
  clear hown hgrow
  generalize hw4 : w3.alloc (.cells #[.slice (some ⟨w2.heap.size, 0, none⟩) 0 X.length] 43) = w4 at *
  have hs0 := hbw.size
  go_loopw [7, 24] (fun c i wr => ∃ (k cn : Nat) (v : Value) (ds : List Nat), k ≤ X.length ∧ i = .int .i64 (k : Int) ∧ c = .int .u32 (cn : Int) ∧ cn ≤ 1 ∧ ds.length = k ∧ val ds + val (Y.take k) = val (X.take k) + 4294967296 ^ k * cn ∧ Boxed wr w3.heap.size 43 v ∧ Own wr w2.heap.size v ds ∧ Below w2.heap.size w2 wr)
    (fun _ i _ => X.length - (intOf i).toNat)
  case atStart => exact ⟨0, 0, _, [], Nat.zero_le _, rfl, rfl, by omega, rfl, by simp [val], hBx, ho, hbel⟩
  case round =>
    obtain ⟨k, cn, v, ds, hk, rfl, rfl, hcn, hdl, hval, hBr, hor, hbr⟩ := hrel
    have HV : Hid (val ds + val (Y.take k) = val (X.take k) + 4294967296 ^ k * cn) := hval
    have HD : Hid (ds.length = k) := hdl
    have hdl2 : ds.length + 1 ≤ 1000000 := by omega
    clear hval hdl
    by_cases hkl : k < X.length
    · obtain ⟨b1, o1, c1, e1, hb1, hc1⟩ := hX.cell (by omega)
      obtain ⟨rfl, rfl⟩ : aa = some ⟨b1, o1, none⟩ ∧ ca = c1 := by simpa using e1
      have hx1 := (hbr.cell (p := ⟨b1, o1 + k, none⟩) (by simp; omega)).trans ((hbw.cell (p := ⟨b1, o1 + k, none⟩) hb1).trans (hc1 k hkl))
      obtain ⟨x, hx⟩ : ∃ x, X[k]?.getD 0 = x := ⟨_, rfl⟩
      have hxs : x < 4294967296 := by rw [← hx]; exact small_getD hX.1 k
      rw [hx] at hx1
      have HX : Hid (X[k]?.getD 0 = x) := hx
      clear hx hc1 e1
      by_cases hks : k < Y.length
      · obtain ⟨b2, o2, c2, e2, hb2, hc2⟩ := hY.cell (by omega)
        obtain ⟨rfl, rfl⟩ : ab = some ⟨b2, o2, none⟩ ∧ cb = c2 := by simpa using e2
        have hy1 := (hbr.cell (p := ⟨b2, o2 + k, none⟩) (by simp; omega)).trans ((hbw.cell (p := ⟨b2, o2 + k, none⟩) hb2).trans (hc2 k hks))
        obtain ⟨y, hy⟩ : ∃ y, Y[k]?.getD 0 = y := ⟨_, rfl⟩
        have hys : y < 4294967296 := by rw [← hy]; exact small_getD hY.1 k
        rw [hy] at hy1
        have HY : Hid (Y[k]?.getD 0 = y) := hy
        clear hy hc2 e2
        go_wp2_with fail
        refine (sub32_c x y cn hxs hys hcn _).mono ?_
        rintro e w5 ⟨rfl, rfl⟩
        have hdd : (x + 8589934592 - y - cn) % 4294967296 < 4294967296 := Nat.mod_lt _ (by omega)
        have hst := sub_step HX.out HY.out hxs hys hcn HD.out HV.out
        have HST : Hid (val (ds ++ [(x + 8589934592 - y - cn) % 4294967296]) + val (Y.take (k + 1)) = val (X.take (k + 1)) + 4294967296 ^ (k + 1) * brw x y cn) := hst
        have hbr1 := brw_le x y cn
        clear hst
        generalize (x + 8589934592 - y - cn) % 4294967296 = d at *
        generalize brw x y cn = c' at *
        go_wp2_with fail
        refine (lay_c _ w3.heap.size w2.heap.size v ds d hBr hor hdl2 hsz).mono ?_
        rintro e w6 ⟨rfl, ⟨v5, hB5, ho5⟩, hb5⟩
        go_wp2
        go_roundw
        case rel => exact ⟨k + 1, c', v5, ds ++ [d], by omega, by go_num, rfl, hbr1, by rw [List.length_append, HD.out]; rfl, HST.out, hB5, ho5.app_mod hdd, hbr.trans hb5⟩
        case measure => simp [intOf]; omega
      · have HY : Hid (Y[k]?.getD 0 = 0) := by show _ = _; simp [List.getElem?_eq_none (show Y.length ≤ k by omega)]
        go_wp2_with fail
        refine (sub32_c x 0 cn hxs (by omega) hcn _).mono ?_
        rintro e w5 ⟨rfl, rfl⟩
        have hdd : (x + 8589934592 - 0 - cn) % 4294967296 < 4294967296 := Nat.mod_lt _ (by omega)
        have hst := sub_step HX.out HY.out hxs (by omega) hcn HD.out HV.out
        have HST : Hid (val (ds ++ [(x + 8589934592 - 0 - cn) % 4294967296]) + val (Y.take (k + 1)) = val (X.take (k + 1)) + 4294967296 ^ (k + 1) * brw x 0 cn) := hst
        have hbr1 := brw_le x 0 cn
        clear hst
        generalize (x + 8589934592 - 0 - cn) % 4294967296 = d at *
        generalize brw x 0 cn = c' at *
        go_wp2_with fail
        refine (lay_c _ w3.heap.size w2.heap.size v ds d hBr hor hdl2 hsz).mono ?_
        rintro e w6 ⟨rfl, ⟨v5, hB5, ho5⟩, hb5⟩
        go_wp2
        go_roundw
        case rel => exact ⟨k + 1, c', v5, ds ++ [d], by omega, by go_num, rfl, hbr1, by rw [List.length_append, HD.out]; rfl, HST.out, hB5, ho5.app_mod hdd, hbr.trans hb5⟩
        case measure => simp [intOf]; omega
    · obtain rfl : k = X.length := by omega
      go_wp2_with fail
      refine (number_c _ w3.heap.size w2.heap.size v _ hBr hor).mono ?_
      rintro e w6 ⟨⟨v6, rfl, ho6⟩, hb6⟩
      go_wp2
      go_ret2
      have hs5 := hbr.size
      exact ⟨⟨_, rfl, (ho6.num (N := N) ((sub_end hor.1 HD.out hyx hge2 hcn HV.out).trans HN.out)).mono hs0⟩, (hbw.trans (hbr.mono hs0)).trans (hb6.mono (by omega))⟩
end Go.Proofs.Ytceonncbflmciaa
