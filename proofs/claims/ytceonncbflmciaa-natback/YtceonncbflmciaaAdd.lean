/- nat.Add. -/
import Derived.Test.YtceonncbflmciaaBasic
namespace Go.Proofs.Ytceonncbflmciaa
open Go.RowKit Go.Shelf

/-- One more digit of a sum. -/
theorem add_step {X Y ds : List Nat} {k c : Nat} (hl : ds.length = k) (hv : val ds + 4294967296 ^ k * c = val (X.take k) + val (Y.take k)) :
    val (ds ++ [(c + X[k]?.getD 0 + Y[k]?.getD 0) % 4294967296]) + 4294967296 ^ (k + 1) * ((c + X[k]?.getD 0 + Y[k]?.getD 0) / 4294967296) = val (X.take (k + 1)) + val (Y.take (k + 1)) := by
  rw [val_snoc, val_take_succ, val_take_succ, hl, Nat.pow_succ, Nat.add_assoc, Nat.mul_assoc, ← Nat.mul_add, Nat.mod_add_div]
  rw [Nat.mul_add, Nat.mul_add]
  omega

set_option maxRecDepth 100000 in
set_option maxHeartbeats 4000000 in
theorem add_c (va vb : Value) (A B : List Nat) (w : World) (hA : Digs w va A) (hB : Digs w vb B) (hla : A.length ≤ 100000) (hlb : B.length ≤ 100000) :
    Calls Try.prog 12 #[va, vb] w fun e w' => (∃ v, e = .returned v ∧ Num w' w.heap.size v (val A + val B)) ∧ Below w.heap.size w w' := by
  obtain ⟨i0, hi, hz0, hz1, hz2⟩ := info_parts Try.info42
  obtain ⟨aa, ca, rfl, hca⟩ := hA.shape
  obtain ⟨ab, cb, rfl, hcb⟩ := hB.shape
  have hX := hA.trim'
  have hY := hB.trim'
  have hlx : (trimL A).length ≤ 100000 := by rw [length_trimL]; have := sizeL_le A; omega
  have hly : (trimL B).length ≤ 100000 := by rw [length_trimL]; have := sizeL_le B; omega
  have HN : Hid (val (trimL A) + val (trimL B) = val A + val B) := by show _ = _; rw [val_trimL, val_trimL]
  generalize val A + val B = N at *
  go_enter Try.func12, Try.ntmps12
  go_wp2_with fail
  refine (trim_d _ _ _ _ hA).mono ?_
  rintro e w1 ⟨rfl, hb1⟩
  go_wp2_with fail
  refine (trim_d _ _ _ _ (hB.below hb1 (Nat.le_refl _))).mono ?_
  rintro e w2 ⟨rfl, hb2⟩
  have hbw : Below w.heap.size w w2 := hb1.trans (hb2.mono hb1.size)
  clear hb1 hb2
  generalize trimL A = X at *
  generalize trimL B = Y at *
  by_cases hlt : X.length < Y.length
  · generalize Y = L at *
    generalize X = S at *
    generalize ab = al at *
    generalize cb = cl at *
    generalize aa = s1 at *
    generalize ca = cs at *
    have hDL := hY
    have hDS := hX
    have hle : S.length ≤ L.length := by omega
    have HN : Hid (val L + val S = N) := (Nat.add_comm _ _).trans HN.out
    go_wp2_with (at_make; refine wpList_make_own _ rfl _ _ 43 rfl w2.heap.size 42 i0 (.int .u32 0) 1 Try.underlying43 hi hz0 hz1 _ _ _ (L.length + 1) rfl rfl (by omega) (by rw [hz2]; omega) (by unfold maxLen; omega) (Nat.le_refl _) ?_; intro w3 hown hgrow)
    obtain ⟨ho, hBx, hbel, hsz⟩ := made_box hown hgrow
    clear hown hgrow
    generalize hw4 : w3.alloc (.cells #[.slice (some ⟨w2.heap.size, 0, none⟩) 0 (L.length + 1)] 43) = w4 at *
    have hs0 := hbw.size
    go_loopw [8, 28] (fun c i wr => ∃ (k cn : Nat) (v : Value) (ds : List Nat), k ≤ L.length ∧ i = .int .i64 (k : Int) ∧ c = .int .u64 (cn : Int) ∧ cn ≤ 1 ∧ ds.length = k ∧ val ds + 4294967296 ^ k * cn = val (L.take k) + val (S.take k) ∧ Boxed wr w3.heap.size 43 v ∧ Own wr w2.heap.size v ds ∧ Below w2.heap.size w2 wr)
      (fun _ i _ => L.length - (intOf i).toNat)
    case atStart => exact ⟨0, 0, _, [], Nat.zero_le _, rfl, rfl, by omega, rfl, by simp [val], hBx, ho, hbel⟩
    case round =>
      obtain ⟨k, cn, v, ds, hk, rfl, rfl, hcn, hdl, hval, hBr, hor, hbr⟩ := hrel
      have HV : Hid (val ds + 4294967296 ^ k * cn = val (L.take k) + val (S.take k)) := hval
      have HD : Hid (ds.length = k) := hdl
      have hdl2 : ds.length + 1 ≤ 1000000 := by omega
      clear hval hdl
      by_cases hkl : k < L.length
      · obtain ⟨b1, o1, c1, e1, hb1, hc1⟩ := hDL.cell (by omega)
        obtain ⟨rfl, rfl⟩ : al = some ⟨b1, o1, none⟩ ∧ cl = c1 := by simpa using e1
        have hx1 := (hbr.cell (p := ⟨b1, o1 + k, none⟩) (by simp; omega)).trans ((hbw.cell (p := ⟨b1, o1 + k, none⟩) hb1).trans (hc1 k hkl))
        obtain ⟨x, hx⟩ : ∃ x, L[k]?.getD 0 = x := ⟨_, rfl⟩
        have hxs : x < 4294967296 := by rw [← hx]; exact small_getD hDL.1 k
        rw [hx] at hx1
        have HX : Hid (L[k]?.getD 0 = x) := hx
        clear hx hc1 e1
        by_cases hks : k < S.length
        · obtain ⟨b2, o2, c2, e2, hb2, hc2⟩ := hDS.cell (by omega)
          obtain ⟨rfl, rfl⟩ : s1 = some ⟨b2, o2, none⟩ ∧ cs = c2 := by simpa using e2
          have hy1 := (hbr.cell (p := ⟨b2, o2 + k, none⟩) (by simp; omega)).trans ((hbw.cell (p := ⟨b2, o2 + k, none⟩) hb2).trans (hc2 k hks))
          obtain ⟨y, hy⟩ : ∃ y, S[k]?.getD 0 = y := ⟨_, rfl⟩
          have hys : y < 4294967296 := by rw [← hy]; exact small_getD hDS.1 k
          rw [hy] at hy1
          have HY : Hid (S[k]?.getD 0 = y) := hy
          clear hy hc2 e2
          go_wp2_with fail
          refine (lay_c wr w3.heap.size w2.heap.size v ds (cn + x + y) hBr hor hdl2 hsz).mono ?_
          rintro e w5 ⟨rfl, ⟨v5, hB5, ho5⟩, hb5⟩
          go_wp2
          go_roundw
          case rel => exact ⟨k + 1, (cn + x + y) / 4294967296, v5, ds ++ [(cn + x + y) % 4294967296], by omega, by go_num, by go_num, by omega, by rw [List.length_append, HD.out]; rfl, by rw [← HX.out, ← HY.out]; exact add_step HD.out HV.out, hB5, ho5, hbr.trans hb5⟩
          case measure => simp [intOf]; omega
        · have HY : Hid (S[k]?.getD 0 = 0) := by show _ = _; simp [List.getElem?_eq_none (show S.length ≤ k by omega)]
          go_wp2_with fail
          refine (lay_c wr w3.heap.size w2.heap.size v ds (cn + x) hBr hor hdl2 hsz).mono ?_
          rintro e w5 ⟨rfl, ⟨v5, hB5, ho5⟩, hb5⟩
          go_wp2
          go_roundw
          case rel => exact ⟨k + 1, (cn + x) / 4294967296, v5, ds ++ [(cn + x) % 4294967296], by omega, by go_num, by go_num, by omega, by rw [List.length_append, HD.out]; rfl, by have := add_step HD.out HV.out; rw [HY.out, HX.out] at this; exact this, hB5, ho5, hbr.trans hb5⟩
          case measure => simp [intOf]; omega
      · obtain rfl : k = L.length := by omega
        go_wp2_with fail
        refine (lay_c wr w3.heap.size w2.heap.size v ds cn hBr hor hdl2 hsz).mono ?_
        rintro e w5 ⟨rfl, ⟨v5, hB5, ho5⟩, hb5⟩
        go_wp2_with fail
        refine (number_c w5 w3.heap.size w2.heap.size v5 _ hB5 ho5).mono ?_
        rintro e w6 ⟨⟨v6, rfl, ho6⟩, hb6⟩
        go_wp2
        go_ret
        have hs5 := (hbr.trans hb5).size
        refine ⟨⟨_, rfl, (ho6.num (N := N) ?_).mono hs0⟩, (hbw.trans ((hbr.trans hb5).mono hs0)).trans (hb6.mono (by omega))⟩
        have hv := HV.out
        rw [List.take_length, List.take_of_length_le hle] at hv
        rw [val_snoc, HD.out, Nat.mod_eq_of_lt (by omega), hv, HN.out]
  · generalize X = L at *
    generalize Y = S at *
    generalize aa = al at *
    generalize ca = cl at *
    generalize ab = s1 at *
    generalize cb = cs at *
    have hDL := hX
    have hDS := hY
    have hle : S.length ≤ L.length := by omega
    go_wp2_with (at_make; refine wpList_make_own _ rfl _ _ 43 rfl w2.heap.size 42 i0 (.int .u32 0) 1 Try.underlying43 hi hz0 hz1 _ _ _ (L.length + 1) rfl rfl (by omega) (by rw [hz2]; omega) (by unfold maxLen; omega) (Nat.le_refl _) ?_; intro w3 hown hgrow)
    obtain ⟨ho, hBx, hbel, hsz⟩ := made_box hown hgrow
    clear hown hgrow
    generalize hw4 : w3.alloc (.cells #[.slice (some ⟨w2.heap.size, 0, none⟩) 0 (L.length + 1)] 43) = w4 at *
    have hs0 := hbw.size
    go_loopw [8, 28] (fun c i wr => ∃ (k cn : Nat) (v : Value) (ds : List Nat), k ≤ L.length ∧ i = .int .i64 (k : Int) ∧ c = .int .u64 (cn : Int) ∧ cn ≤ 1 ∧ ds.length = k ∧ val ds + 4294967296 ^ k * cn = val (L.take k) + val (S.take k) ∧ Boxed wr w3.heap.size 43 v ∧ Own wr w2.heap.size v ds ∧ Below w2.heap.size w2 wr)
      (fun _ i _ => L.length - (intOf i).toNat)
    case atStart => exact ⟨0, 0, _, [], Nat.zero_le _, rfl, rfl, by omega, rfl, by simp [val], hBx, ho, hbel⟩
    case round =>
      obtain ⟨k, cn, v, ds, hk, rfl, rfl, hcn, hdl, hval, hBr, hor, hbr⟩ := hrel
      have HV : Hid (val ds + 4294967296 ^ k * cn = val (L.take k) + val (S.take k)) := hval
      have HD : Hid (ds.length = k) := hdl
      have hdl2 : ds.length + 1 ≤ 1000000 := by omega
      clear hval hdl
      by_cases hkl : k < L.length
      · obtain ⟨b1, o1, c1, e1, hb1, hc1⟩ := hDL.cell (by omega)
        obtain ⟨rfl, rfl⟩ : al = some ⟨b1, o1, none⟩ ∧ cl = c1 := by simpa using e1
        have hx1 := (hbr.cell (p := ⟨b1, o1 + k, none⟩) (by simp; omega)).trans ((hbw.cell (p := ⟨b1, o1 + k, none⟩) hb1).trans (hc1 k hkl))
        obtain ⟨x, hx⟩ : ∃ x, L[k]?.getD 0 = x := ⟨_, rfl⟩
        have hxs : x < 4294967296 := by rw [← hx]; exact small_getD hDL.1 k
        rw [hx] at hx1
        have HX : Hid (L[k]?.getD 0 = x) := hx
        clear hx hc1 e1
        by_cases hks : k < S.length
        · obtain ⟨b2, o2, c2, e2, hb2, hc2⟩ := hDS.cell (by omega)
          obtain ⟨rfl, rfl⟩ : s1 = some ⟨b2, o2, none⟩ ∧ cs = c2 := by simpa using e2
          have hy1 := (hbr.cell (p := ⟨b2, o2 + k, none⟩) (by simp; omega)).trans ((hbw.cell (p := ⟨b2, o2 + k, none⟩) hb2).trans (hc2 k hks))
          obtain ⟨y, hy⟩ : ∃ y, S[k]?.getD 0 = y := ⟨_, rfl⟩
          have hys : y < 4294967296 := by rw [← hy]; exact small_getD hDS.1 k
          rw [hy] at hy1
          have HY : Hid (S[k]?.getD 0 = y) := hy
          clear hy hc2 e2
          go_wp2_with fail
          refine (lay_c wr w3.heap.size w2.heap.size v ds (cn + x + y) hBr hor hdl2 hsz).mono ?_
          rintro e w5 ⟨rfl, ⟨v5, hB5, ho5⟩, hb5⟩
          go_wp2
          go_roundw
          case rel => exact ⟨k + 1, (cn + x + y) / 4294967296, v5, ds ++ [(cn + x + y) % 4294967296], by omega, by go_num, by go_num, by omega, by rw [List.length_append, HD.out]; rfl, by rw [← HX.out, ← HY.out]; exact add_step HD.out HV.out, hB5, ho5, hbr.trans hb5⟩
          case measure => simp [intOf]; omega
        · have HY : Hid (S[k]?.getD 0 = 0) := by show _ = _; simp [List.getElem?_eq_none (show S.length ≤ k by omega)]
          go_wp2_with fail
          refine (lay_c wr w3.heap.size w2.heap.size v ds (cn + x) hBr hor hdl2 hsz).mono ?_
          rintro e w5 ⟨rfl, ⟨v5, hB5, ho5⟩, hb5⟩
          go_wp2
          go_roundw
          case rel => exact ⟨k + 1, (cn + x) / 4294967296, v5, ds ++ [(cn + x) % 4294967296], by omega, by go_num, by go_num, by omega, by rw [List.length_append, HD.out]; rfl, by have := add_step HD.out HV.out; rw [HY.out, HX.out] at this; exact this, hB5, ho5, hbr.trans hb5⟩
          case measure => simp [intOf]; omega
      · obtain rfl : k = L.length := by omega
        go_wp2_with fail
        refine (lay_c wr w3.heap.size w2.heap.size v ds cn hBr hor hdl2 hsz).mono ?_
        rintro e w5 ⟨rfl, ⟨v5, hB5, ho5⟩, hb5⟩
        go_wp2_with fail
        refine (number_c w5 w3.heap.size w2.heap.size v5 _ hB5 ho5).mono ?_
        rintro e w6 ⟨⟨v6, rfl, ho6⟩, hb6⟩
        go_wp2
        go_ret
        have hs5 := (hbr.trans hb5).size
        refine ⟨⟨_, rfl, (ho6.num (N := N) ?_).mono hs0⟩, (hbw.trans ((hbr.trans hb5).mono hs0)).trans (hb6.mono (by omega))⟩
        have hv := HV.out
        rw [List.take_length, List.take_of_length_le hle] at hv
        rw [val_snoc, HD.out, Nat.mod_eq_of_lt (by omega), hv, HN.out]
end Go.Proofs.Ytceonncbflmciaa
