/- (*digits).subTimes, addBack and takeOut. -/
import Derived.Test.YtceonncbflmciaaAddBack
namespace Go.Proofs.Ytceonncbflmciaa
open Go.RowKit Go.Shelf

theorem sub_round {L M N : List Nat} {k c b x y m d b' : Nat} (hl : L.length = k) (hm : M[k]?.getD 0 = m) (hy : N[k]?.getD 0 = y) (hv : val L + x * val (N.take k) = val (M.take k) + 4294967296 ^ k * (c + b)) (hd : d + (c + x * y) % 4294967296 + b = m + 4294967296 * b') :
    val (L ++ [d]) + x * val (N.take (k + 1)) = val (M.take (k + 1)) + 4294967296 ^ (k + 1) * ((c + x * y) / 4294967296 + b') := by
  rw [val_snoc, val_take_succ, val_take_succ, hl, hm, hy, Nat.pow_succ, Nat.mul_assoc]
  have h1 : d + (c + x * y) + b = m + 4294967296 * ((c + x * y) / 4294967296 + b') := by omega
  have h2 : 4294967296 ^ k * (d + (c + x * y) + b) = 4294967296 ^ k * (m + 4294967296 * ((c + x * y) / 4294967296 + b')) := by rw [h1]
  rw [Nat.mul_add, Nat.mul_add, Nat.mul_add, Nat.mul_add (4294967296 ^ k) m] at h2
  rw [Nat.mul_add, Nat.mul_left_comm x]
  rw [Nat.mul_add] at hv
  omega
theorem sub_last {L M N : List Nat} {n c b x m d b' : Nat} (hl : L.length = n) (hM : M.length = n + 1) (hN : N.length = n) (hm : M[n]?.getD 0 = m) (hv : val L + x * val (N.take n) = val (M.take n) + 4294967296 ^ n * (c + b)) (hd : d + c + b = m + 4294967296 * b') :
    val (L ++ [d]) + x * val N = val M + 4294967296 ^ (n + 1) * b' := by
  rw [List.take_of_length_le (by omega : N.length ≤ n)] at hv
  have hMt := val_take_succ M n
  rw [List.take_of_length_le (by omega), hm] at hMt
  rw [val_snoc, hl, hMt, Nat.pow_succ, Nat.mul_assoc]
  have h2 : 4294967296 ^ n * (d + c + b) = 4294967296 ^ n * (m + 4294967296 * b') := by rw [hd]
  rw [Nat.mul_add, Nat.mul_add, Nat.mul_add (4294967296 ^ n) m] at h2
  rw [Nat.mul_add] at hv
  omega
theorem brw_zero {x y c : Nat} (h : brw x y c = 0) : ¬ x < y + c := by
  unfold brw at h; split at h <;> omega

/-- What is left of a digit. -/
def dif (x y c : Nat) : Nat := (x + 8589934592 - y - c) % 4294967296
theorem dif_lt (x y c : Nat) : dif x y c < 4294967296 := Nat.mod_lt _ (by omega)
theorem dif_spec (x y c : Nat) (hx : x < 4294967296) (hy : y < 4294967296) (hc : c ≤ 1) : dif x y c + y + c = x + 4294967296 * brw x y c := brw_spec x y c hx hy hc
theorem sub32_d (x y c : Nat) (hx : x < 4294967296) (hy : y < 4294967296) (hc : c ≤ 1) (w : World) :
    Calls Try.prog 28 #[.int .u32 (x : Int), .int .u32 (y : Int), .int .u32 (c : Int)] w fun e w' => e = .returned (.tuple #[.int .u32 (dif x y c : Int), .int .u32 (brw x y c : Int)]) ∧ w' = w := sub32_c x y c hx hy hc w

theorem ret_bit {b : Nat} (h : b ≤ 1) : Ending.returned (.bool ((b : Int) != 0)) = .returned (.bool (decide (b = 1))) := by
  rcases Nat.le_one_iff_eq_zero_or_eq_one.1 h with rfl | rfl <;> rfl

theorem sum_mul (c x y t : Nat) (h : t = c + x * y) : (c : Int) + (x : Int) * (y : Int) = (t : Int) := by rw [h]; simp

set_option maxRecDepth 100000 in
set_option maxHeartbeats 4000000 in
/-- d.subTimes(x, n): n is taken away x times; whether that went around. -/
theorem subTimes_c (w : World) (B n₀ g len cap c2 x : Nat) (P M Q N : List Nat) (vn : Value) (hx : x < 4294967296) (hB : Boxed w B 43 (.slice (some ⟨g, P.length, none⟩) M.length c2)) (ho : Own w n₀ (.slice (some ⟨g, 0, none⟩) len cap) (P ++ M ++ Q))
    (hM : M.length = N.length + 1) (hN : Digs w vn N) (hNb : ∀ b off cap, vn = .slice (some ⟨b, off, none⟩) N.length cap → 0 < N.length → b < n₀) :
    Calls Try.prog 53 #[.pointer (some ⟨B, 0, none⟩), .int .u32 (x : Int), vn] w fun e w' =>
      (∃ M' b', e = .returned (.bool (decide (b' = 1))) ∧ b' ≤ 1 ∧ M'.length = M.length ∧ val M' + x * val N = val M + 4294967296 ^ (N.length + 1) * b' ∧ Own w' n₀ (.slice (some ⟨g, 0, none⟩) len cap) (P ++ M' ++ Q) ∧ Boxed w' B 43 (.slice (some ⟨g, P.length, none⟩) M.length c2)) ∧ w.grownBy w' (some g) := by
  obtain ⟨an, cn, rfl, hcn⟩ := hN.shape
  have hng := ho.base_le
  have hBg := ho.box_ne hB
  have hNl := hN.2.1
  have hHM : Hid (M.length = N.length + 1) := hM
  have hHL : Hid (len = (P ++ M ++ Q).length) := ho.len_le.1
  rw [hM] at hB
  rw [hM]
  go_enter Try.func53, Try.ntmps53
  clear hM
  go_wp2_with fail
  go_loopw [7, 8, 14] (fun tc tb ti wr => ∃ (k c b : Nat) (L : List Nat), k ≤ N.length ∧ ti = .int .i64 (k : Int) ∧ tc = .int .u64 (c : Int) ∧ tb = .int .u32 (b : Int) ∧ c < 4294967296 ∧ b ≤ 1 ∧ L.length = k ∧ val L + x * val (N.take k) = val (M.take k) + 4294967296 ^ k * (c + b) ∧ Boxed wr B 43 (.slice (some ⟨g, P.length, none⟩) (N.length + 1) c2) ∧ Own wr n₀ (.slice (some ⟨g, 0, none⟩) len cap) (P ++ (L ++ M.drop k) ++ Q) ∧ w.grownBy wr (some g))
    (fun _ _ ti _ => N.length - (intOf ti).toNat)
  case atStart => exact ⟨0, 0, 0, [], Nat.zero_le _, rfl, rfl, rfl, by omega, by omega, rfl, by simp [val], hB, by simpa using ho, World.grownBy.refl _ _⟩
  case round =>
    obtain ⟨k, c, b, L, hk, rfl, rfl, rfl, hc, hb, hL, hval, hBr, hor, hbr⟩ := hrel
    have HV : Hid (val L + x * val (N.take k) = val (M.take k) + 4294967296 ^ k * (c + b)) := hval
    obtain ⟨m, hm⟩ : ∃ m, M[k]?.getD 0 = m := ⟨_, rfl⟩
    have hkM : k < M.length := by rw [hHM.out]; omega
    have hdrop : M.drop k = m :: M.drop (k + 1) := by rw [List.drop_eq_getElem_cons hkM, ← hm]; simp [hkM]
    rw [hdrop] at hor
    have hms : m < 4294967296 := hor.1 m (by simp)
    have hcell := hor.cellAt (P.length + L.length) (by simp)
    rw [get_mid] at hcell
    have hfr := hor.frozenAt (P.length + L.length)
    rw [hL] at hcell hfr
    have HL : Hid (L.length = k) := hL
    have HM : Hid (M[k]?.getD 0 = m) := hm
    have cB := hBr.cell
    clear hm hval hL hdrop hkM
    by_cases hkl : k < N.length
    · obtain ⟨b1, o1, c1, e1, hb1, hc1⟩ := hN.cell (by omega)
      obtain ⟨rfl, rfl⟩ : an = some ⟨b1, o1, none⟩ ∧ cn = c1 := by simpa using e1
      have hb2 := hNb b1 o1 cn rfl (by omega)
      have hy1 := hbr.cell (a := ⟨b1, o1 + k, none⟩) (hc1 k hkl) (by simp; omega)
      obtain ⟨y, hy⟩ : ∃ y, N[k]?.getD 0 = y := ⟨_, rfl⟩
      have hys : y < 4294967296 := by rw [← hy]; exact small_getD hN.1 k
      rw [hy] at hy1
      have HY : Hid (N[k]?.getD 0 = y) := hy
      obtain ⟨hp1, hp0⟩ := mul_int x y hx hys
      clear hy hc1 e1
      go_wp2
      obtain ⟨t, ht⟩ : ∃ t, t = c + x * y := ⟨_, rfl⟩
      rw [sum_mul c x y t ht]
      have htl : t < 18446744073709551616 := by have := mul_bound x y hx hys; omega
      have HT : Hid (t = c + x * y) := ht
      clear ht
      have htm : t % 4294967296 < 4294967296 := Nat.mod_lt _ (by omega)
      have hsp := dif_spec m (t % 4294967296) b hms htm hb
      have hdl := dif_lt m (t % 4294967296) b
      have hbl := brw_le m (t % 4294967296) b
      have hst := hor.store (P.length + k) (dif m (t % 4294967296) b) hdl
      rw [← HL.out, set_mid] at hst
      rw [HL.out] at hst
      have hBx := boxed_setOther (u := .int .u32 (dif m (t % 4294967296) b : Int)) (j := P.length + k) hBr hBg
      have hbl2 := hbr.trans (grow_set wr g (P.length + k) (.int .u32 (dif m (t % 4294967296) b : Int)))
      have hv2 : val (L ++ [dif m (t % 4294967296) b]) + x * val (N.take (k + 1)) = val (M.take (k + 1)) + 4294967296 ^ (k + 1) * (t / 4294967296 + brw m (t % 4294967296) b) := by
        have := sub_round HL.out HM.out HY.out HV.out (d := dif m (t % 4294967296) b) (b' := brw m (t % 4294967296) b) (by rw [← HT.out]; exact hsp)
        rw [← HT.out] at this
        exact this
      have HFIN : Hid (val (L ++ [dif m (t % 4294967296) b]) + x * val (N.take (k + 1)) = val (M.take (k + 1)) + 4294967296 ^ (k + 1) * (t / 4294967296 + brw m (t % 4294967296) b)) := hv2
      have HST : Hid (Own (wr.setCell ⟨g, P.length + k, none⟩ (.int .u32 (dif m (t % 4294967296) b : Int))) n₀ (.slice (some ⟨g, 0, none⟩) len cap) (P ++ ((L ++ [dif m (t % 4294967296) b]) ++ M.drop (k + 1)) ++ Q)) := hst
      have HBX : Hid _ := hBx
      have HBL : Hid _ := hbl2
      have hcall := fun wx => sub32_d m (t % 4294967296) b hms htm hb wx
      clear hv2 hst hBx hbl2 hsp hor hBr hbr hdl
      obtain ⟨d, hd⟩ : ∃ d, dif m (t % 4294967296) b = d := ⟨_, rfl⟩
      obtain ⟨b', hb'⟩ : ∃ b', brw m (t % 4294967296) b = b' := ⟨_, rfl⟩
      rw [hd, hb'] at HFIN
      rw [hd] at HST HBX HBL
      rw [hb'] at hbl
      simp only [hd, hb'] at hcall
      have HCALL : Hid (∀ wx, Calls Try.prog 28 #[.int .u32 (m : Int), .int .u32 ((t % 4294967296 : Nat) : Int), .int .u32 (b : Int)] wx fun e w' => e = .returned (.tuple #[.int .u32 (d : Int), .int .u32 (b' : Int)]) ∧ w' = wx) := hcall
      clear hcall hd hb'
      go_region_with (go_at_call 28; rw [int_mod]; refine (HCALL.out _).mono ?_; rintro e w5 ⟨rfl, rfl⟩)
      all_goals go_wp2
      all_goals exact ⟨⟨k + 1, t / 4294967296, b', L ++ [d], by omega, by go_num, by rw [int_div], rfl, by omega, hbl, by rw [List.length_append, HL.out]; rfl, HFIN.out, HBX.out, HST.out, grow_drew HBL.out⟩, by simp [intOf]; omega⟩
    · obtain rfl : k = N.length := by omega
      have hd2 : M.drop (N.length + 1) = [] := List.drop_eq_nil_of_le (by rw [hHM.out]; omega)
      have hsp := dif_spec m c b hms hc hb
      have hdl := dif_lt m c b
      have hbl := brw_le m c b
      have hst := hor.store (P.length + N.length) (dif m c b) hdl
      rw [← HL.out, set_mid] at hst
      rw [HL.out, hd2, List.append_nil] at hst
      have hBx := boxed_setOther (u := .int .u32 (dif m c b : Int)) (j := P.length + N.length) hBr hBg
      have hbl2 := hbr.trans (grow_set wr g (P.length + N.length) (.int .u32 (dif m c b : Int)))
      have hv2 : val (L ++ [dif m c b]) + x * val N = val M + 4294967296 ^ (N.length + 1) * brw m c b := sub_last HL.out hHM.out rfl HM.out HV.out hsp
      have HFIN : Hid (val (L ++ [dif m c b]) + x * val N = val M + 4294967296 ^ (N.length + 1) * brw m c b) := hv2
      have HST : Hid (Own (wr.setCell ⟨g, P.length + N.length, none⟩ (.int .u32 (dif m c b : Int))) n₀ (.slice (some ⟨g, 0, none⟩) len cap) (P ++ (L ++ [dif m c b]) ++ Q)) := hst
      have HBX : Hid _ := hBx
      have HBL : Hid _ := hbl2
      have hcall := fun wx => sub32_d m c b hms hc hb wx
      clear hv2 hst hBx hbl2 hsp hor hBr hbr hdl hd2
      obtain ⟨d, hd⟩ : ∃ d, dif m c b = d := ⟨_, rfl⟩
      obtain ⟨b', hb'⟩ : ∃ b', brw m c b = b' := ⟨_, rfl⟩
      rw [hd, hb'] at HFIN
      rw [hd] at HST HBX HBL
      rw [hb'] at hbl
      simp only [hd, hb'] at hcall
      have HCALL : Hid (∀ wx, Calls Try.prog 28 #[.int .u32 (m : Int), .int .u32 (c : Int), .int .u32 (b : Int)] wx fun e w' => e = .returned (.tuple #[.int .u32 (d : Int), .int .u32 (b' : Int)]) ∧ w' = wx) := hcall
      have hcm : (c : Int) % 4294967296 = (c : Int) := by omega
      clear hcall hd hb'
      go_wp2
      go_region_with (go_at_call 28; refine (HCALL.out _).mono ?_; rintro e w5 ⟨rfl, rfl⟩)
      all_goals go_wp2
      all_goals go_ret
      all_goals exact ⟨⟨L ++ [d], b', ret_bit hbl, hbl, by rw [List.length_append, HL.out]; rfl, HFIN.out, HST.out, HBX.out⟩, grow_drew HBL.out⟩
end Go.Proofs.Ytceonncbflmciaa
