/- math/bits.Len32, LeadingZeros32, Sub32, Add32; cmp.Compare at ints and uint32s. -/
import Derived.Test.YtceonncbflmciaaLen32
import Derived.Laws.BitsAllLaws
import Derived.Test.YtceonncbflmciaaFrom
namespace Go.Proofs.Ytceonncbflmciaa
open Go.RowKit Go.Shelf

theorem ret_two {k k' : IntKind} {a b c d : Int} (h : a = c) (h' : b = d) : Ending.returned (.tuple #[.int k a, .int k' b]) = .returned (.tuple #[.int k c, .int k' d]) := by rw [h, h']
theorem ret_one {k : IntKind} {a b : Int} (h : a = b) : Ending.returned (.int k a) = .returned (.int k b) := by rw [h]

set_option maxHeartbeats 1000000 in
theorem add32_c (x y c : Nat) (hx : x < 4294967296) (hy : y < 4294967296) (hc : c ≤ 1) (w : World) :
    Calls Try.prog 55 #[.int .u32 (x : Int), .int .u32 (y : Int), .int .u32 (c : Int)] w fun e w' => e = .returned (.tuple #[.int .u32 (((x + y + c) % 4294967296 : Nat) : Int), .int .u32 (((x + y + c) / 4294967296 : Nat) : Int)]) ∧ w' = w := by
  go_enter Try.func55, Try.ntmps55
  go_wp2
  go_ret2
  exact ⟨ret_two (by omega) (by omega), rfl⟩

/-- What is borrowed. -/
def brw (x y c : Nat) : Nat := if x < y + c then 1 else 0
theorem brw_le (x y c : Nat) : brw x y c ≤ 1 := by unfold brw; split <;> omega
theorem brw_spec (x y c : Nat) (hx : x < 4294967296) (hy : y < 4294967296) (hc : c ≤ 1) : (x + 8589934592 - y - c) % 4294967296 + y + c = x + 4294967296 * brw x y c := by
  unfold brw; split <;> omega

theorem bit31 (v : Nat) (h : v < 4294967296) : v.testBit 31 = decide (2147483648 ≤ v) := by
  rw [Nat.testBit_eq_decide_div_mod_eq]
  congr 1
  simp only [Nat.reducePow, eq_iff_iff]
  omega
theorem div31 (v : Nat) (h : v < 4294967296) : v / 2147483648 = (v.testBit 31).toNat := by
  rw [bit31 v h]
  by_cases hv : 2147483648 ≤ v
  · simp [hv]; omega
  · simp [hv]; omega

theorem borrow_bits (x y c d : Nat) (hx : x < 4294967296) (hy : y < 4294967296) (hc : c ≤ 1) (hd : d = (x + 8589934592 - y - c) % 4294967296) :
    (((4294967295 ^^^ x) &&& y) ||| ((4294967295 ^^^ (x ^^^ y)) &&& d)) / 2147483648 = brw x y c := by
  have hd2 : d < 4294967296 := by omega
  have hxy : x ^^^ y < 4294967296 := Nat.xor_lt_two_pow (n := 32) hx hy
  have h1 : (4294967295 ^^^ x) &&& y < 4294967296 := Nat.and_lt_two_pow (n := 32) _ hy
  have h2 : (4294967295 ^^^ (x ^^^ y)) &&& d < 4294967296 := Nat.and_lt_two_pow (n := 32) _ hd2
  rw [div31 _ (Nat.or_lt_two_pow (n := 32) h1 h2)]
  simp only [Nat.testBit_or, Nat.testBit_and, Nat.testBit_xor, bit31 x hx, bit31 y hy, bit31 d hd2, show (4294967295 : Nat).testBit 31 = true from by decide]
  unfold brw
  by_cases a : 2147483648 ≤ x <;> by_cases b : 2147483648 ≤ y <;> by_cases e : 2147483648 ≤ d <;> by_cases f : x < y + c <;> simp [a, b, e, f] <;> omega

theorem borrow_int (x y c : Nat) (hx : x < 4294967296) (hy : y < 4294967296) (hc : c ≤ 1) :
    bits BinOp.or IntKind.u32 (bits BinOp.and IntKind.u32 (bits BinOp.xor IntKind.u32 IntKind.u32.max (x : Int)) (y : Int))
      (bits BinOp.and IntKind.u32 (bits BinOp.xor IntKind.u32 IntKind.u32.max (bits BinOp.xor IntKind.u32 (x : Int) (y : Int))) (((x : Int) - (y : Int) - (c : Int)) % 4294967296)) / 2147483648 = (brw x y c : Int) := by
  have hm : IntKind.u32.max = ((4294967295 : Nat) : Int) := rfl
  have hd : ((x : Int) - (y : Int) - (c : Int)) % 4294967296 = (((x + 8589934592 - y - c) % 4294967296 : Nat) : Int) := by omega
  have hd2 : (x + 8589934592 - y - c) % 4294967296 < 4294967296 := Nat.mod_lt _ (by omega)
  have hxy : x ^^^ y < 4294967296 := Nat.xor_lt_two_pow (n := 32) hx hy
  have h0 : (4294967295 ^^^ x) < 4294967296 := Nat.xor_lt_two_pow (n := 32) (by omega) hx
  have h0' : (4294967295 ^^^ (x ^^^ y)) < 4294967296 := Nat.xor_lt_two_pow (n := 32) (by omega) hxy
  have h1 : (4294967295 ^^^ x) &&& y < 4294967296 := Nat.and_lt_two_pow (n := 32) _ hy
  have h2 : (4294967295 ^^^ (x ^^^ y)) &&& ((x + 8589934592 - y - c) % 4294967296) < 4294967296 := Nat.and_lt_two_pow (n := 32) _ hd2
  rw [hm, hd, u32_xor_nat _ _ (by omega) hx, u32_and_nat _ _ h0 hy, u32_xor_nat _ _ hx hy, u32_xor_nat _ _ (by omega) hxy, u32_and_nat _ _ h0' hd2, u32_or_nat _ _ h1 h2]
  rw [show ((2147483648 : Int)) = ((2147483648 : Nat) : Int) from rfl, ← Int.natCast_ediv, borrow_bits x y c _ hx hy hc rfl]

set_option maxHeartbeats 1000000 in
theorem sub32_c (x y c : Nat) (hx : x < 4294967296) (hy : y < 4294967296) (hc : c ≤ 1) (w : World) :
    Calls Try.prog 28 #[.int .u32 (x : Int), .int .u32 (y : Int), .int .u32 (c : Int)] w fun e w' => e = .returned (.tuple #[.int .u32 (((x + 8589934592 - y - c) % 4294967296 : Nat) : Int), .int .u32 (brw x y c : Int)]) ∧ w' = w := by
  go_enter Try.func28, Try.ntmps28
  go_wp2
  go_ret2
  exact ⟨ret_two (by omega) (borrow_int x y c hx hy hc), rfl⟩

theorem bitLen_lt (x : Nat) (h : x < 4294967296) : x < 2 ^ Lib.bitLen x := by
  have key : ∀ f x : Nat, x < 2 ^ f → x < 2 ^ Lib.bitLenAux f x := by
    intro f
    induction f with
    | zero => intro x h; simpa [Lib.bitLenAux] using h
    | succ f ih =>
      intro x h
      simp only [Lib.bitLenAux]
      split
      · rename_i h0; subst h0; simp
      · have := ih (x / 2) (by rw [Nat.pow_succ] at h; omega)
        rw [Nat.add_comm, Nat.pow_succ]; omega
  exact key 64 x (by omega)
theorem bitLen_ge (x : Nat) (h0 : 0 < x) : 2 ^ (Lib.bitLen x - 1) ≤ x := by
  have key : ∀ f x : Nat, 0 < x → 2 ^ (Lib.bitLenAux f x - 1) ≤ x := by
    intro f
    induction f with
    | zero => intro x h; simp [Lib.bitLenAux]; omega
    | succ f ih =>
      intro x h
      simp only [Lib.bitLenAux]
      split
      · omega
      · by_cases h2 : 0 < x / 2
        · have := ih (x / 2) h2
          by_cases hz : Lib.bitLenAux f (x / 2) = 0
          · rw [hz]; simp; omega
          · rw [show 1 + Lib.bitLenAux f (x / 2) - 1 = (Lib.bitLenAux f (x / 2) - 1) + 1 from by omega, Nat.pow_succ]; omega
        · have : x / 2 = 0 := by omega
          rw [this]
          cases f <;> simp [Lib.bitLenAux] <;> omega
  exact key 64 x h0

theorem len32_c (x : Nat) (hx : x < 4294967296) (w : World) :
    Calls Try.prog 44 #[.int .u32 (x : Int)] w fun e w' => e = .returned (.int .i64 (Lib.bitLen x : Nat)) ∧ w' = w := by
  have := len32_i (x : Int) (by omega) (by omega) w
  rwa [Int.toNat_natCast] at this

set_option maxHeartbeats 1000000 in
theorem lead32_c (x : Nat) (hx : x < 4294967296) (w : World) :
    Calls Try.prog 46 #[.int .u32 (x : Int)] w fun e w' => e = .returned (.int .i64 (32 - Lib.bitLen x : Nat)) ∧ w' = w := by
  have hb : Lib.bitLen x ≤ 32 := Lib.bitLen_le x 32 (by omega) (by omega)
  go_enter Try.func46, Try.ntmps46
  go_wp2_with (go_at_call 44; refine (len32_c _ hx _).mono ?_; rintro e w' ⟨rfl, rfl⟩)
  go_ret
  exact ⟨ret_one (by omega), rfl⟩

/-- -1, 0 or 1, as x is below y, the same, or above. -/
def ordN (x y : Nat) : Int := if x < y then -1 else if y < x then 1 else 0
theorem ordN_lt {x y : Nat} (h : x < y) : ordN x y = -1 := by simp [ordN, h]
theorem ordN_gt {x y : Nat} (h : y < x) : ordN x y = 1 := by simp [ordN, h, show ¬ x < y from by omega]
theorem ordN_eq (x : Nat) : ordN x x = 0 := by simp [ordN]

set_option maxHeartbeats 1000000 in
theorem cmp_int_c (x y : Nat) (w : World) :
    Calls Try.prog 42 #[.int .i64 (x : Int), .int .i64 (y : Int)] w fun e w' => e = .returned (.int .i64 (ordN x y)) ∧ w' = w := by
  rcases Nat.lt_trichotomy x y with h | h | h
  · rw [ordN_lt h]
    go_enter Try.func42, Try.ntmps42
    go_wp2
    go_ret
    exact ⟨rfl, rfl⟩
  · subst h
    rw [ordN_eq]
    go_enter Try.func42, Try.ntmps42
    go_wp2
    go_ret
    exact ⟨rfl, rfl⟩
  · rw [ordN_gt h]
    go_enter Try.func42, Try.ntmps42
    go_wp2
    go_ret
    exact ⟨rfl, rfl⟩

set_option maxHeartbeats 1000000 in
theorem cmp_u32_c (x y : Nat) (w : World) :
    Calls Try.prog 43 #[.int .u32 (x : Int), .int .u32 (y : Int)] w fun e w' => e = .returned (.int .i64 (ordN x y)) ∧ w' = w := by
  rcases Nat.lt_trichotomy x y with h | h | h
  · rw [ordN_lt h]
    go_enter Try.func43, Try.ntmps43
    go_wp2
    go_ret
    exact ⟨rfl, rfl⟩
  · subst h
    rw [ordN_eq]
    go_enter Try.func43, Try.ntmps43
    go_wp2
    go_ret
    exact ⟨rfl, rfl⟩
  · rw [ordN_gt h]
    go_enter Try.func43, Try.ntmps43
    go_wp2
    go_ret
    exact ⟨rfl, rfl⟩

end Go.Proofs.Ytceonncbflmciaa
