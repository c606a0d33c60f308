/- levellingref02.Mul. -/
import Derived.Test.YtceonncbflmciaaRefShl
namespace Go.Proofs.Ytceonncbflmciaa
open Go.RowKit Go.Shelf

theorem mulStep' {L M N : List Nat} {k c x y m : Nat} (hl : L.length = k) (hm : M[k]?.getD 0 = m) (hy : N[k]?.getD 0 = y) (hv : val L + 4294967296 ^ k * c = val (M.take k) + x * val (N.take k)) :
    val (L ++ [(x * y + m + c) % 4294967296]) + 4294967296 ^ (k + 1) * ((x * y + m + c) / 4294967296) = val (M.take (k + 1)) + x * val (N.take (k + 1)) := by
  rw [show x * y + m + c = c + (x * y + m) by omega]
  exact mulStep hl hm hy hv
theorem sum_int' (c x y m s : Nat) (h : s = x * y + m + c) : (x : Int) * (y : Int) + (m : Int) + (c : Int) = (s : Int) := by
  rw [h]; simp

set_option maxRecDepth 100000 in
set_option maxHeartbeats 8000000 in
/-- levellingref02.Mul. -/
theorem rmul_c (va vb : Value) (A B : List Nat) (w : World) (hA : Digs w va A) (hB : Digs w vb B) (hla : A.length ≤ 100000) (hlb : B.length ≤ 100000) :
    Calls Try.prog 15 #[va, vb] w fun e w' => (∃ v, e = .returned v ∧ Res w' v (val A * val B)) ∧ Below w.heap.size w w' := by
  obtain ⟨i0, hi, hz0, hz1, hz2⟩ := info_parts Try.info42
  obtain ⟨aa, ca, rfl, hca⟩ := hA.shape
  obtain ⟨ab, cb, rfl, hcb⟩ := hB.shape
  have sA := hA.1
  have sB := hB.1
  obtain ⟨N, hN⟩ : ∃ N, val A * val B = N := ⟨_, rfl⟩
  rw [hN]
  have HN : Hid (val A * val B = N) := hN
  clear hN
  go_enter Try.func15, Try.ntmps15
  go_wp2_with (at_make; refine wpList_make_lc _ rfl _ _ 22 rfl 42 i0 (.int .u32 0) Try.underlying22 hi hz0 hz1 _ _ _ _ (A.length + B.length) (A.length + B.length) rfl rfl (by omega) (by omega) (by omega) (by rw [hz2]; omega) (by omega) ?_)
  have ho := made_own w (A.length + B.length) (A.length + B.length) (by omega) (by omega)
  have hbel : Below w.heap.size w (w.alloc (.cells (madeCells #[Value.int .u32 0] (A.length + B.length)) 42)) := Below.alloc (Below.refl _ _) (Nat.le_refl _) _
  generalize w.alloc (.cells (madeCells #[Value.int .u32 0] (A.length + B.length)) 42) = w4 at *
  go_loopw [6] (fun i wr => ∃ (k : Nat) (ds : List Nat), k ≤ A.length ∧ i = .int .i64 (k : Int) ∧ Hid (ds.length = A.length + B.length) ∧ Hid (val ds = val (A.take k) * val B) ∧ Hid (∀ j : Nat, k + B.length ≤ j → ds[j]?.getD 0 = 0) ∧ Own wr w.heap.size (.slice (some ⟨w.heap.size, 0, none⟩) (A.length + B.length) (A.length + B.length)) ds ∧ Below w.heap.size w wr)
    (fun i _ => A.length - (intOf i).toNat)
  case atStart => exact ⟨0, _, Nat.zero_le _, rfl, by show _ = _; simp, by show _ = _; simp [val, val_replicate], fun j _ => by rw [List.getElem?_replicate]; split <;> rfl, ho, hbel⟩
  case round =>
    obtain ⟨k, ds, hk, rfl, HD, HV, HZ, hor, hbr⟩ := hrel
    clear ho hbel
    by_cases hkl : k < A.length
    · obtain ⟨b1, o1, c1, e1, hb1, hc1⟩ := hA.cell (by omega)
      obtain ⟨rfl, rfl⟩ : aa = some ⟨b1, o1, none⟩ ∧ ca = c1 := by simpa using e1
      have hx1 := hc1 k hkl
      obtain ⟨x, hx⟩ : ∃ x, A[k]?.getD 0 = x := ⟨_, rfl⟩
      have hxs : x < 4294967296 := by rw [← hx]; exact small_getD sA k
      rw [hx] at hx1
      have HX : Hid (A[k]?.getD 0 = x) := hx
      have HX1 : Hid (w.cell? ⟨b1, o1 + k, none⟩ = some (.int .u32 (x : Int))) := hx1
      have hkd : Hid (k + B.length + 1 ≤ ds.length) := by show _ ≤ _; rw [HD.out]; omega
      have htk : Hid ((ds.take k).length = k) := by show _ = _; have := hkd.out; simp; omega
      have hor3 := hor
      rw [three_parts ds k (B.length + 1)] at hor3
      have hML : Hid (((ds.drop k).take (B.length + 1)).length = B.length + 1) := by show _ = _; have := hkd.out; simp; omega
      clear hx hx1 hc1 e1 hor
      go_wp2_with fail
      generalize hP : ds.take k = P at *
      generalize hM : (ds.drop k).take (B.length + 1) = M at *
      generalize hQ : ds.drop (k + (B.length + 1)) = Q at *
      have HP : Hid (ds.take k = P) := hP
      have HM0 : Hid ((ds.drop k).take (B.length + 1) = M) := hM
      have HQ0 : Hid (ds.drop (k + (B.length + 1)) = Q) := hQ
      clear hP hM hQ
      go_loopw [7, 8] (fun c i wi => ∃ (j cc : Nat) (L : List Nat), j ≤ B.length ∧ i = .int .i64 (j : Int) ∧ c = .int .u64 (cc : Int) ∧ cc < 4294967296 ∧ Hid (L.length = j) ∧ Hid (val L + 4294967296 ^ j * cc = val (M.take j) + x * val (B.take j)) ∧ Own wi w.heap.size (.slice (some ⟨w.heap.size, 0, none⟩) (A.length + B.length) (A.length + B.length)) (P ++ (L ++ M.drop j) ++ Q) ∧ Below w.heap.size w wi)
        (fun _ i _ => B.length - (intOf i).toNat)
      case atStart => exact ⟨0, 0, [], Nat.zero_le _, rfl, rfl, by omega, rfl, by show _ = _; simp [val], by simpa using hor3, hbr⟩
      case round =>
        obtain ⟨j, cc, L, hj, rfl, rfl, hcc, HL, HW, hoi, hbi⟩ := hrel
        have hx1 := (hbi.cell (p := ⟨b1, o1 + k, none⟩) hb1).trans HX1.out
        obtain ⟨m, hm⟩ : ∃ m, M[j]?.getD 0 = m := ⟨_, rfl⟩
        have hjM : j < M.length := by rw [hML.out]; omega
        have hdrop : M.drop j = m :: M.drop (j + 1) := by rw [List.drop_eq_getElem_cons hjM, ← hm]; simp [hjM]
        rw [hdrop] at hoi
        have hms : m < 4294967296 := hoi.1 m (by simp)
        have hcell := hoi.cellAt (P.length + L.length) (by simp)
        rw [get_mid] at hcell
        have hfr := hoi.frozenAt (P.length + L.length)
        rw [HL.out, htk.out] at hcell hfr
        have HM : Hid (M[j]?.getD 0 = m) := hm
        clear hm hdrop hjM
        by_cases hjl : j < B.length
        · obtain ⟨b2, o2, c2, e2, hb2, hc2⟩ := hB.cell (by omega)
          obtain ⟨rfl, rfl⟩ : ab = some ⟨b2, o2, none⟩ ∧ cb = c2 := by simpa using e2
          have hy1 := (hbi.cell (p := ⟨b2, o2 + j, none⟩) hb2).trans (hc2 j hjl)
          obtain ⟨y, hy⟩ : ∃ y, B[j]?.getD 0 = y := ⟨_, rfl⟩
          have hys : y < 4294967296 := by rw [← hy]; exact small_getD sB j
          rw [hy] at hy1
          have HY : Hid (B[j]?.getD 0 = y) := hy
          obtain ⟨hp1, hp0⟩ := mul_int x y hxs hys
          clear hy hc2 e2
          go_wp2_with fail
          go_quiet (fail)
          all_goals go_wp2
          obtain ⟨t, ht⟩ : ∃ t, t = x * y + m + cc := ⟨_, rfl⟩
          rw [sum_int' cc x y m t ht, int_mod, int_div]
          have htb : t / 4294967296 < 4294967296 := by have := mul_bound x y hxs hys; omega
          have hst := (hoi.below (below_drewN (Below.refl wr.heap.size wr) nq) (Nat.le_refl _)).store (P.length + L.length) (t % 4294967296) (Nat.mod_lt _ (by omega))
          rw [set_mid] at hst
          rw [htk.out, HL.out] at hst
          exact ⟨⟨j + 1, t / 4294967296, L ++ [t % 4294967296], by omega, by go_num, rfl, htb, by show _ = _; rw [List.length_append, HL.out]; rfl, by show _ = _; rw [ht]; exact mulStep' HL.out HM.out HY.out HW.out, hst, (below_drewN hbi nq).setCell (p := ⟨w.heap.size, k + j, none⟩) (Nat.le_refl _) _⟩, by simp [intOf]; omega⟩
        · obtain rfl : j = B.length := by omega
          have hd2 : M.drop (B.length + 1) = [] := List.drop_eq_nil_of_le (by rw [hML.out]; omega)
          rw [hd2] at hoi
          clear hd2
          go_wp2
          have hst := hoi.store (P.length + L.length) cc hcc
          rw [set_mid] at hst
          rw [htk.out, HL.out, List.append_nil] at hst
          have e1 := HP.out
          have e2 := HM0.out
          have e3 := HQ0.out
          subst e1 e2 e3
          obtain ⟨r1, r2, r3⟩ := mul_round (M' := L ++ [cc]) hkd.out HX.out HV.out HZ.out (by rw [List.length_append, HL.out, hML.out]; rfl) (by
            intro h0
            have hv := HW.out
            have hMt := val_take_succ ((ds.drop k).take (B.length + 1)) B.length
            rw [List.take_of_length_le (by rw [hML.out]; omega), h0] at hMt
            rw [List.take_length] at hv
            rw [val_snoc, HL.out, hv, hMt]
            omega)
          exact ⟨⟨k + 1, _, by omega, by go_num, r1.trans HD.out, r2, r3, hst, hbi.setCell (p := ⟨w.heap.size, k + B.length, none⟩) (Nat.le_refl _) _⟩, by simp [intOf]; omega⟩
    · obtain rfl : k = A.length := by omega
      go_wp2_with fail
      refine (rtrim_c _ ds _ hor.digs).mono ?_
      rintro e w6 ⟨⟨v6, rfl, h6⟩, hb6⟩
      go_wp2
      go_ret
      have hv := HV.out
      rw [List.take_length] at hv
      exact ⟨⟨_, rfl, _, h6, norm_trimL _, by rw [val_trimL, hv, HN.out]⟩, hbr.trans (hb6.mono hbr.size)⟩
end Go.Proofs.Ytceonncbflmciaa
