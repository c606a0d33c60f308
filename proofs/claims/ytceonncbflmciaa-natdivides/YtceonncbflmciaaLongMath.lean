/- Plain mathematics of long division. -/
import Derived.Test.YtceonncbflmciaaTakeOut
import Derived.Test.YtceonncbflmciaaDivMath
namespace Go.Proofs.Ytceonncbflmciaa

/-- Shifted so that its highest bit is set, a number has as many digits as it had. -/
theorem norm_room (N ds : List Nat) (hs : small N) (hn : norm N) (h1 : 1 ≤ N.length) (hsd : small ds) (hnd : norm ds) (hv : val ds = val N * 2 ^ (32 - Lib.bitLen (N[N.length - 1]?.getD 0))) :
    ds.length = N.length ∧ 2147483648 ≤ ds[ds.length - 1]?.getD 0 ∧ val ds < 4294967296 ^ N.length := by
  have htop : N[N.length - 1]?.getD 0 ≠ 0 := by
    have := sizeL_top N (by rw [show sizeL N = N.length from hn]; exact h1)
    rwa [show sizeL N = N.length from hn] at this
  have htl := small_getD hs (N.length - 1)
  have hvt := val_top N h1
  have hlo : val (N.take (N.length - 1)) < 4294967296 ^ (N.length - 1) := by
    have := val_lt (small_take (N.length - 1) hs)
    rwa [List.length_take, show min (N.length - 1) N.length = N.length - 1 from by omega] at this
  have hb32 : Lib.bitLen (N[N.length - 1]?.getD 0) ≤ 32 := Lib.bitLen_le _ 32 (by omega) (by omega)
  have hblt := bitLen_lt _ htl
  have hbge := bitLen_ge (N[N.length - 1]?.getD 0) (by omega)
  generalize N[N.length - 1]?.getD 0 = top at *
  generalize val (N.take (N.length - 1)) = lo at *
  have hb1 : 1 ≤ Lib.bitLen top := by
    rcases Nat.eq_zero_or_pos (Lib.bitLen top) with h0 | h0
    · rw [h0] at hblt; simp at hblt; omega
    · exact h0
  generalize Lib.bitLen top = bl at *
  have hpn : (4294967296 : Nat) ^ N.length = 4294967296 ^ (N.length - 1) * 4294967296 := by rw [← Nat.pow_succ]; congr 1; omega
  have e1 : (2 : Nat) ^ bl * 2 ^ (32 - bl) = 4294967296 := by rw [← Nat.pow_add, show bl + (32 - bl) = 32 by omega]
  have e2 : (2 : Nat) ^ (bl - 1) * 2 ^ (32 - bl) = 2147483648 := by rw [← Nat.pow_add, show bl - 1 + (32 - bl) = 31 by omega]
  have hup : val ds < 4294967296 ^ N.length := by
    rw [hv, hvt, hpn]
    have h2 : lo + 4294967296 ^ (N.length - 1) * top < 4294967296 ^ (N.length - 1) * (top + 1) := by rw [Nat.mul_add, Nat.mul_one]; omega
    have h3 : 4294967296 ^ (N.length - 1) * (top + 1) ≤ 4294967296 ^ (N.length - 1) * 2 ^ bl := Nat.mul_le_mul_left _ hblt
    have h4 : (lo + 4294967296 ^ (N.length - 1) * top) * 2 ^ (32 - bl) < 4294967296 ^ (N.length - 1) * 2 ^ bl * 2 ^ (32 - bl) := Nat.mul_lt_mul_of_pos_right (by omega) (Nat.pow_pos (by omega))
    rwa [Nat.mul_assoc (4294967296 ^ (N.length - 1)), e1] at h4
  have hdn : 4294967296 ^ (N.length - 1) * 2147483648 ≤ val ds := by
    rw [hv, hvt]
    have h3 : 4294967296 ^ (N.length - 1) * 2 ^ (bl - 1) ≤ lo + 4294967296 ^ (N.length - 1) * top := Nat.le_trans (Nat.mul_le_mul_left _ hbge) (Nat.le_add_left _ _)
    have h4 := Nat.mul_le_mul_right (2 ^ (32 - bl)) h3
    rwa [Nat.mul_assoc, e2] at h4
  have hl1 := length_le_of_lt hnd hup
  have hP : 0 < (4294967296 : Nat) ^ (N.length - 1) := Nat.pow_pos (by omega)
  have hl2 : N.length ≤ ds.length := by
    apply Classical.byContradiction
    intro hc
    have h5 := val_lt hsd
    have h6 : (4294967296 : Nat) ^ ds.length ≤ 4294967296 ^ (N.length - 1) := Nat.pow_le_pow_right (by omega) (by omega)
    omega
  have hl : ds.length = N.length := by omega
  refine ⟨hl, ?_, hup⟩
  have hdt := val_top ds (by omega)
  have hdlo : val (ds.take (ds.length - 1)) < 4294967296 ^ (ds.length - 1) := by
    have := val_lt (small_take (ds.length - 1) hsd)
    rwa [List.length_take, show min (ds.length - 1) ds.length = ds.length - 1 from by omega] at this
  rw [hl] at hdt hdlo ⊢
  generalize ds[N.length - 1]?.getD 0 = t at *
  generalize val (ds.take (N.length - 1)) = dlo at *
  apply Classical.byContradiction
  intro hc
  have h7 : 4294967296 ^ (N.length - 1) * (t + 1) ≤ 4294967296 ^ (N.length - 1) * 2147483648 := Nat.mul_le_mul_left _ (by omega)
  rw [Nat.mul_add, Nat.mul_one] at h7
  omega

/-- One step of long division. -/
theorem long_step {Ls : List Nat} {i n V U0 D : Nat} (hs : small Ls) (hl : i + n + 1 ≤ Ls.length) (hV : V < 4294967296 ^ n) (hinv : U0 = val Ls + V * (4294967296 ^ (i + 1) * D)) (hlt : val (Ls.drop (i + 1)) < V) :
    val ((Ls.drop i).take (n + 1)) < 4294967296 * V ∧
    ∀ M' t, M'.length = n + 1 → t = val ((Ls.drop i).take (n + 1)) / V → val M' = val ((Ls.drop i).take (n + 1)) % V →
      U0 = val (Ls.take i ++ M' ++ Ls.drop (i + (n + 1))) + V * (4294967296 ^ i * (t + 4294967296 * D)) ∧ val ((Ls.take i ++ M' ++ Ls.drop (i + (n + 1))).drop i) < V := by
  have hc := drop_cons_getD Ls i (by omega)
  have hvd : val (Ls.drop i) = Ls[i]?.getD 0 + 4294967296 * val (Ls.drop (i + 1)) := by rw [hc]; rfl
  have hdi := small_getD hs i
  have hsp := val_split (Ls.drop i) (n + 1)
  have hlM : ((Ls.drop i).take (n + 1)).length = n + 1 := by simp; omega
  rw [hlM, List.drop_drop] at hsp
  have hpn : (4294967296 : Nat) ^ (n + 1) = 4294967296 ^ n * 4294967296 := Nat.pow_succ _ _
  have hq0 : val (Ls.drop (i + (n + 1))) = 0 := by
    rcases Nat.eq_zero_or_pos (val (Ls.drop (i + (n + 1)))) with h0 | h0
    · exact h0
    · have h2 := Nat.mul_le_mul_left (4294967296 ^ (n + 1)) h0
      omega
  rw [hq0, Nat.mul_zero, Nat.add_zero] at hsp
  refine ⟨by omega, ?_⟩
  intro M' t hM' ht hm
  have hlt2 : (Ls.take i).length = i := by simp; omega
  have hV0 : 0 < V := by omega
  have hmod := Nat.mod_lt (val ((Ls.drop i).take (n + 1))) hV0
  have hdm := Nat.div_add_mod (val ((Ls.drop i).take (n + 1))) V
  constructor
  · rw [List.append_assoc, val_append, val_append, hlt2, hq0, Nat.mul_zero, Nat.add_zero]
    have h3 := val_split Ls i
    rw [hlt2, hsp] at h3
    rw [hinv, h3, hm, ht]
    generalize val ((Ls.drop i).take (n + 1)) = m at *
    have h4 : 4294967296 ^ i * m = 4294967296 ^ i * (V * (m / V) + m % V) := by rw [hdm]
    rw [h4, Nat.pow_succ]
    simp only [Nat.mul_add, Nat.mul_assoc, Nat.mul_left_comm V]
    omega
  · rw [List.append_assoc, List.drop_append_of_le_length (by omega), List.drop_of_length_le (by omega), List.nil_append, val_append, hq0, Nat.mul_zero, Nat.add_zero, hm]
    exact hmod

theorem long_end {U0 V ls ds : Nat} (hinv : U0 = ls + V * ds) (hlt : ls < V) : ds = U0 / V ∧ ls = U0 % V := by
  have hV : 0 < V := by omega
  rw [hinv]
  constructor
  · rw [Nat.add_mul_div_left _ _ hV, Nat.div_eq_of_lt hlt, Nat.zero_add]
  · rw [Nat.add_mul_mod_self_left, Nat.mod_eq_of_lt hlt]

theorem long_back (A B r : Nat) : A * 2 ^ r / (B * 2 ^ r) = A / B ∧ A * 2 ^ r % (B * 2 ^ r) / 2 ^ r = A % B := by
  have h : 0 < 2 ^ r := Nat.pow_pos (by omega)
  exact ⟨Nat.mul_div_mul_right _ _ h, by rw [Nat.mul_mod_mul_right, Nat.mul_div_cancel _ h]⟩
end Go.Proofs.Ytceonncbflmciaa
