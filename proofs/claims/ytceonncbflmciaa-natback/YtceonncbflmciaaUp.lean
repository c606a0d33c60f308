/- nat.up and nat.Shl. -/
import Derived.Laws.MakeOwn
import Derived.Test.YtceonncbflmciaaMul
namespace Go.Proofs.Ytceonncbflmciaa
open Go.RowKit Go.Shelf

/-- 'make([]T, n, m)', n and m variables. -/
theorem wpList_make_lc {P : Program} (w : World) {ops : Array Oper} {rest : List Oper} {o : Oper} {a : Act} {Q : Exit → Act → World → Prop}
    (hg : o.guard = none) (l c : Operand) (t : TypeId) (hop : o.op = Op.makeSlice t l c)
    (e : TypeId) (i : TypeInfo) (z : Value) (h1 : P.underlying t = some (.slice e)) (h2 : P.info? e = some i) (h3 : i.zero = some z) (h4 : i.size = 1)
    (kl kc : IntKind) (L C : Int) (n m : Nat) (hl : a.eval l = .int kl L) (hc : a.eval c = .int kc C) (hL : L = (n : Int)) (hC : C = (m : Int)) (hnm : n ≤ m) (b2 : i.bytes * m ≤ 281474976710656) (b3 : m ≤ 9223372036854775807)
    (hK : wpList P ops Q rest (a.put o.dst (.slice (some ⟨w.heap.size, 0, none⟩) n m)) (w.alloc (.cells (madeCells z.cells m) e))) :
    wpList P ops Q (o :: rest) a w := by
  refine wpList_plain hg fun K hK' => ?_
  have hrun := run_make (P := P) w t e i z h1 h2 h3 kl kc (n : Int) (m : Int) (by omega) (by omega) (by rw [← Int.natCast_mul]; omega) (by omega)
  rw [h4] at hrun
  subst hL
  subst hC
  unfold Oper.wp
  simp [execOp, hop, hl, hc, hrun, Result.andThen]
  exact hK' _ _ (by simpa using hK)

/-- 'd := make(digits, n, m)', d in a box: n zeros. -/
theorem made_lc (w : World) (n m : Nat) (hnm : n ≤ m) (hm : m ≤ 1000000) :
    Own ((w.alloc (.cells (madeCells #[Value.int .u32 0] m) 42)).alloc (.cells #[.slice (some ⟨w.heap.size, 0, none⟩) n m] 43)) w.heap.size (.slice (some ⟨w.heap.size, 0, none⟩) n m) (List.replicate n 0) ∧
    Boxed ((w.alloc (.cells (madeCells #[Value.int .u32 0] m) 42)).alloc (.cells #[.slice (some ⟨w.heap.size, 0, none⟩) n m] 43)) (w.heap.size + 1) 43 (.slice (some ⟨w.heap.size, 0, none⟩) n m) ∧
    Below w.heap.size w ((w.alloc (.cells (madeCells #[Value.int .u32 0] m) 42)).alloc (.cells #[.slice (some ⟨w.heap.size, 0, none⟩) n m] 43)) := by
  have hc : (madeCells #[Value.int .u32 0] m).toList = List.replicate m (dv 0) := by
    rw [toList_madeCells_one]; simp [dv]
  refine ⟨⟨small_replicate n, by simp; omega, ?_⟩, ?_, ((Below.refl _ w).alloc (Nat.le_refl _) _).alloc (by simp) _⟩
  · apply World.ownsRow.alloc
    refine ⟨by simp, .inr ⟨w.heap.size, m, _, by simp, Nat.le_refl _, World.alloc_heap_new w _, by simpa using hnm, by unfold maxLen; omega, ?_, ?_⟩⟩
    · rw [← Array.length_toList, hc]; simp
    · rw [hc]; simp [List.take_replicate, Nat.min_eq_left hnm]
  · have := Boxed.new (w.alloc (.cells (madeCells #[Value.int .u32 0] m) 42)) 43 (.slice (some ⟨w.heap.size, 0, none⟩) n m)
    rwa [World.size_alloc] at this

theorem or_add (p x c : Nat) (hp : p < 32) (hx : x < 4294967296) (hc : c < 2 ^ p) : bits BinOp.or IntKind.u64 (IntKind.u64.wrap ((x : Int) * 2 ^ p)) (c : Int) = ((x * 2 ^ p + c : Nat) : Int) := by
  have h1 : (2 : Nat) ^ p ≤ 2 ^ 32 := Nat.pow_le_pow_right (by omega) (by omega)
  have h2 : x * 2 ^ p ≤ 4294967295 * 2 ^ p := Nat.mul_le_mul_right _ (by omega)
  have h4 : x * 2 ^ p < 18446744073709551616 := by omega
  have h3 : IntKind.u64.wrap ((x : Int) * 2 ^ p) = ((x * 2 ^ p : Nat) : Int) := by
    have e : ((x : Int) * 2 ^ p) = ((x * 2 ^ p : Nat) : Int) := by simp
    rw [e, IntKind.wrap_u64]; omega
  rw [h3, u64_or_nat _ _ h4 (by omega), Nat.mul_comm, Nat.two_pow_add_eq_or_of_lt hc]

theorem up_step {X ds : List Nat} {k j c x : Nat} (hl : ds.length = k / 32 + j) (hx : X[j]?.getD 0 = x) (hv : val ds + 4294967296 ^ (k / 32 + j) * c = val (X.take j) * 2 ^ k) :
    val (ds ++ [(x * 2 ^ (k % 32) + c) % 4294967296]) + 4294967296 ^ (k / 32 + (j + 1)) * ((x * 2 ^ (k % 32) + c) / 4294967296) = val (X.take (j + 1)) * 2 ^ k := by
  have hk : (2 : Nat) ^ k = 4294967296 ^ (k / 32) * 2 ^ (k % 32) := by
    rw [B_pow, ← Nat.pow_add]; congr 1; omega
  rw [val_snoc, val_take_succ, hl, hx, ← Nat.add_assoc, Nat.pow_succ, Nat.add_assoc, Nat.mul_assoc, ← Nat.mul_add, Nat.mod_add_div, Nat.mul_add, Nat.add_mul, ← hv]
  have e : 4294967296 ^ (k / 32 + j) * (x * 2 ^ (k % 32)) = 4294967296 ^ j * x * 2 ^ k := by
    rw [hk, Nat.pow_add]
    simp only [Nat.mul_comm, Nat.mul_left_comm, Nat.mul_assoc]
  omega
theorem up_carry {p x c : Nat} (hx : x < 4294967296) (hc : c < 2 ^ p) : (x * 2 ^ p + c) / 4294967296 < 2 ^ p := by
  rw [Nat.div_lt_iff_lt_mul (by omega)]
  have : x * 2 ^ p ≤ 4294967295 * 2 ^ p := Nat.mul_le_mul_right _ (by omega)
  omega

set_option maxRecDepth 100000 in
set_option maxHeartbeats 4000000 in
/-- nat.up(n, k): n times 2 to the power of k. -/
theorem up_c (va : Value) (A : List Nat) (k : Nat) (w : World) (hA : Digs w va A) (hla : A.length ≤ 100000) (hk : k ≤ 10000000) :
    Calls Try.prog 37 #[va, .int .i64 (k : Int)] w fun e w' => (∃ v, e = .returned v ∧ Num w' w.heap.size v (val A * 2 ^ k)) ∧ Below w.heap.size w w' := by
  obtain ⟨i0, hi, hz0, hz1, hz2⟩ := info_parts Try.info42
  obtain ⟨aa, ca, rfl, hca⟩ := hA.shape
  have hX := hA.trim'
  have hlx : (trimL A).length ≤ 100000 := by rw [length_trimL]; have := sizeL_le A; omega
  have HN : Hid (val (trimL A) * 2 ^ k = val A * 2 ^ k) := by show _ = _; rw [val_trimL]
  generalize val A * 2 ^ k = N at *
  go_enter Try.func37, Try.ntmps37
  go_wp2_with fail
  refine (trim_d _ _ _ _ hA).mono ?_
  rintro e w2 ⟨rfl, hbw⟩
  generalize trimL A = X at *
  by_cases hx0 : X.length = 0
  · have hx0' : ((X.length : Int) == 0) = true := by simp [hx0]
    have HX0 : Hid (X.length = 0) := hx0
    clear hx0
    go_wp2
    go_ret
    refine ⟨⟨_, rfl, ?_⟩, hbw⟩
    rw [← HN.out, List.length_eq_zero_iff.1 HX0.out]
    simp only [val, Nat.zero_mul]
    exact Num.nil _ _
  · have hx0' : ((X.length : Int) == 0) = false := by simp [hx0]
    go_wp2_with (at_make; refine wpList_make_lc _ rfl _ _ 43 rfl 42 i0 (.int .u32 0) Try.underlying43 hi hz0 hz1 _ _ _ _ (k / 32) (k / 32 + X.length + 1) rfl rfl (by omega) (by omega) (by omega) (by rw [hz2]; omega) (by omega) ?_)
    have hbx := made_lc w2 (k / 32) (k / 32 + X.length + 1) (by omega) (by omega)
    obtain ⟨ho, hBx, hbel⟩ := hbx
    generalize (w2.alloc (.cells (madeCells #[Value.int .u32 0] (k / 32 + X.length + 1)) 42)).alloc (.cells #[.slice (some ⟨w2.heap.size, 0, none⟩) (k / 32) (k / 32 + X.length + 1)] 43) = w4 at *
    have hs0 := hbw.size
    go_loopw [8, 29] (fun c i wr => ∃ (j cn : Nat) (v : Value) (ds : List Nat), j ≤ X.length ∧ i = .int .i64 (j : Int) ∧ c = .int .u64 (cn : Int) ∧ cn < 2 ^ (k % 32) ∧ ds.length = k / 32 + j ∧ val ds + 4294967296 ^ (k / 32 + j) * cn = val (X.take j) * 2 ^ k ∧ Boxed wr (w2.heap.size + 1) 43 v ∧ Own wr w2.heap.size v ds ∧ Below w2.heap.size w2 wr)
      (fun _ i _ => X.length - (intOf i).toNat)
    case atStart => exact ⟨0, 0, _, _, Nat.zero_le _, rfl, rfl, Nat.pow_pos (by omega), by simp, by simp [val, val_replicate], hBx, ho, hbel⟩
    case round =>
      obtain ⟨j, cn, v, ds, hj, rfl, rfl, hcn, hdl, hval, hBr, hor, hbr⟩ := hrel
      have HV : Hid (val ds + 4294967296 ^ (k / 32 + j) * cn = val (X.take j) * 2 ^ k) := hval
      have HD : Hid (ds.length = k / 32 + j) := hdl
      have hdl2 : ds.length + 1 ≤ 1000000 := by omega
      have HC : Hid (cn < 2 ^ (k % 32)) := hcn
      clear hval hdl hcn
      by_cases hjl : j < X.length
      · obtain ⟨b1, o1, c1, e1, hb1, hc1⟩ := hX.cell (by omega)
        obtain ⟨rfl, rfl⟩ : aa = some ⟨b1, o1, none⟩ ∧ ca = c1 := by simpa using e1
        have hx1 := (hbr.cell (p := ⟨b1, o1 + j, none⟩) (by simp; omega)).trans ((hbw.cell (p := ⟨b1, o1 + j, none⟩) hb1).trans (hc1 j hjl))
        obtain ⟨x, hx⟩ : ∃ x, X[j]?.getD 0 = x := ⟨_, rfl⟩
        have hxs : x < 4294967296 := by rw [← hx]; exact small_getD hX.1 j
        rw [hx] at hx1
        have HX : Hid (X[j]?.getD 0 = x) := hx
        clear hx hc1 e1
        go_wp2_with fail
        rw [or_add (k % 32) x cn (by omega) hxs HC.out]
        refine (lay_c wr (w2.heap.size + 1) w2.heap.size v ds (x * 2 ^ (k % 32) + cn) hBr hor hdl2 (by omega)).mono ?_
        rintro e w5 ⟨rfl, ⟨v5, hB5, ho5⟩, hb5⟩
        have HS := up_step HD.out HX.out HV.out
        have HC2 := up_carry hxs HC.out
        have HS' : Hid _ := HS
        have HC' : Hid _ := HC2
        clear HS HC2
        generalize (x * 2 ^ (k % 32) + cn) % 4294967296 = d at *
        generalize (x * 2 ^ (k % 32) + cn) / 4294967296 = c' at *
        go_wp2
        go_roundw
        case rel => exact ⟨j + 1, c', v5, ds ++ [d], by omega, by go_num, rfl, HC'.out, by rw [List.length_append, HD.out]; rfl, HS'.out, hB5, ho5, hbr.trans hb5⟩
        case measure => simp [intOf]; omega
      · obtain rfl : j = X.length := by omega
        go_wp2_with fail
        refine (lay_c wr (w2.heap.size + 1) w2.heap.size v ds cn hBr hor hdl2 (by omega)).mono ?_
        rintro e w5 ⟨rfl, ⟨v5, hB5, ho5⟩, hb5⟩
        go_wp2_with fail
        refine (number_c w5 (w2.heap.size + 1) w2.heap.size v5 _ hB5 ho5).mono ?_
        rintro e w6 ⟨⟨v6, rfl, ho6⟩, hb6⟩
        go_wp2
        go_ret
        have hs5 := (hbr.trans hb5).size
        have hcs : cn < 4294967296 := Nat.lt_of_lt_of_le HC.out (Nat.le_trans (Nat.pow_le_pow_right (by omega) (show k % 32 ≤ 32 by omega)) (by omega))
        refine ⟨⟨_, rfl, (ho6.num (N := N) ?_).mono hs0⟩, (hbw.trans ((hbr.trans hb5).mono hs0)).trans (hb6.mono (by omega))⟩
        have hv := HV.out
        rw [List.take_length] at hv
        rw [val_snoc, HD.out, Nat.mod_eq_of_lt hcs, hv, HN.out]

set_option maxHeartbeats 1000000 in
/-- nat.Shl(n, k). -/
theorem shl_c (va : Value) (A : List Nat) (k : Int) (w : World) (hA : Digs w va A) (hla : A.length ≤ 100000) (hk0 : 0 ≤ k) (hk : k ≤ 100000) :
    Calls Try.prog 16 #[va, .int .i64 k] w fun e w' => (∃ v, e = .returned v ∧ Num w' w.heap.size v (val A * 2 ^ k.toNat)) ∧ Below w.heap.size w w' := by
  obtain ⟨n, rfl⟩ := Int.eq_ofNat_of_zero_le hk0
  rw [Int.toNat_natCast]
  obtain ⟨aa, ca, rfl, hca⟩ := hA.shape
  go_enter Try.func16, Try.ntmps16
  go_wp2_with (go_at_call 37; refine (up_c _ _ _ _ hA hla (by omega)).mono ?_; rintro e w' ⟨⟨v, rfl, hv⟩, hb⟩)
  go_ret
  exact ⟨⟨_, rfl, hv⟩, hb⟩

set_option maxHeartbeats 1000000 in
theorem shl_no (va : Value) (A : List Nat) (k : Int) (w : World) (hA : Digs w va A) (hk : k < 0 ∨ 100000 < k) :
    Calls Try.prog 16 #[va, .int .i64 k] w fun e w' => e = .returned (.slice none 0 0) ∧ w' = w := by
  obtain ⟨aa, ca, rfl, hca⟩ := hA.shape
  rcases hk with hk | hk
  · go_enter Try.func16, Try.ntmps16
    go_wp2
    go_ret
    exact ⟨rfl, rfl⟩
  · have hk2 : ¬ k < 0 := by omega
    go_enter Try.func16, Try.ntmps16
    go_wp2
    go_ret
    exact ⟨rfl, rfl⟩
end Go.Proofs.Ytceonncbflmciaa
