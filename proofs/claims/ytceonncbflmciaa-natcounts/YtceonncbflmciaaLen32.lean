/- math/bits.Len32: how many bits a number needs. (Over the plain walk, which keeps the table's name.) -/
import Derived.Test.YtceonncbflmciaaProg
import Derived.Lib.Strings
import Derived.Lib.Slices
import Derived.Lib.Small
import Derived.Lib.Walk
import Derived.Lib.BitFns
namespace Go.Proofs.Ytceonncbflmciaa

theorem len8_case (x b k : Int) (hb0 : 0 ≤ b) (hb : b ≤ 255) (h : Lib.bitLen x.toNat = k.toNat + Lib.bitLen b.toNat) (hk0 : 0 ≤ k) (hk : k ≤ 24) :
    (k + Lib.len8 b) = (Lib.bitLen x.toNat : Int) ∧ 0 ≤ Lib.len8 b ∧ Lib.len8 b ≤ 8 := by
  have e := Lib.len8_of b hb0 hb
  have l := Lib.bitLen_le8' b hb0 hb
  omega

set_option maxHeartbeats 4000000 in
set_option maxRecDepth 100000 in
theorem len32_i (x : Int) (h0 : 0 ≤ x) (h1 : x ≤ 4294967295) (w : World) :
    Calls Try.prog 44 #[.int .u32 x] w fun e w' => e = .returned (.int .i64 (Lib.bitLen x.toNat : Nat)) ∧ w' = w := by
  go_enter Try.func44, Try.ntmps44
  go_wp2
  all_goals (go_ret; refine ⟨congrArg (fun z => Ending.returned (Value.int IntKind.i64 z)) ?_, rfl⟩)
  · have e : (x / 65536 / 256 % 256).toNat = x.toNat / 16777216 := by omega
    have t := len8_case x (x / 65536 / 256 % 256) 24 (by omega) (by omega) (by rw [e]; exact Lib.bitLen_shift24 x.toNat (by omega) (by omega)) (by omega) (by omega)
    omega
  · have e : (x / 65536 % 256).toNat = x.toNat / 65536 := by omega
    have t := len8_case x (x / 65536 % 256) 16 (by omega) (by omega) (by rw [e]; exact Lib.bitLen_shift16 x.toNat (by omega) (by omega)) (by omega) (by omega)
    omega
  · have e : (x / 256 % 256).toNat = x.toNat / 256 := by omega
    have t := len8_case x (x / 256 % 256) 8 (by omega) (by omega) (by rw [e]; exact Lib.bitLen_shift8 x.toNat (by omega) (by omega)) (by omega) (by omega)
    omega
  · have e : (x % 256).toNat = x.toNat := by omega
    have t := len8_case x (x % 256) 0 (by omega) (by omega) (by rw [e]; simp) (by omega) (by omega)
    omega

end Go.Proofs.Ytceonncbflmciaa
