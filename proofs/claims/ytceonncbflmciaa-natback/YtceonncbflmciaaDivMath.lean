/- Plain mathematics of division by one digit, from behind. -/
import Derived.Test.YtceonncbflmciaaShrMath
namespace Go.Proofs.Ytceonncbflmciaa

/-- One step of the loop: what is left over, and what is set. -/
def quoN (b q : Nat) : Nat := q / b % 4294967296
theorem quoN_lt (b q : Nat) : quoN b q < 4294967296 := Nat.mod_lt _ (by omega)
def divS (b : Nat) (s : Nat × List Nat) (x : Nat × Nat) : Nat × List Nat := (pairN s.1 x.2 % b, s.2.set x.1 (quoN b (pairN s.1 x.2)))
def divF (b L : Nat) (l : List (Nat × Nat)) : Nat × List Nat := l.foldl (divS b) (0, List.replicate L 0)
theorem divF_snoc (b L : Nat) (l : List (Nat × Nat)) (x : Nat × Nat) : divF b L (l ++ [x]) = divS b (divF b L l) x := by simp [divF]
theorem divF_length (b L : Nat) (l : List (Nat × Nat)) : (divF b L l).2.length = L := by
  have : ∀ (l : List (Nat × Nat)) (s : Nat × List Nat), (l.foldl (divS b) s).2.length = s.2.length := by
    intro l
    induction l with
    | nil => intro s; rfl
    | cons x r ih => intro s; rw [List.foldl_cons, ih]; simp [divS]
  rw [divF, this]; simp
theorem divF_lt (b L : Nat) (l : List (Nat × Nat)) (hb : 0 < b) : (divF b L l).1 < b := by
  have key : ∀ (l : List (Nat × Nat)) (s : Nat × List Nat), s.1 < b → (l.foldl (divS b) s).1 < b := by
    intro l
    induction l with
    | nil => intro s hs; exact hs
    | cons x r ih => intro s _; rw [List.foldl_cons]; exact ih _ (Nat.mod_lt _ hb)
  exact key l _ hb

theorem pairN_small (q d b : Nat) (hq : q < b) (hb : b ≤ 4294967296) : pairN q d = q * 4294967296 + d := by
  unfold pairN; omega

theorem div_arith (b H d : Nat) (hb : 0 < b) (hd : d < 4294967296) :
    (d + 4294967296 * H) / b = (H % b * 4294967296 + d) / b + 4294967296 * (H / b) ∧ (d + 4294967296 * H) % b = (H % b * 4294967296 + d) % b ∧ (H % b * 4294967296 + d) / b < 4294967296 := by
  have e : d + 4294967296 * H = (H % b * 4294967296 + d) + b * (4294967296 * (H / b)) := by
    have h1 := Nat.div_add_mod H b
    have h2 : 4294967296 * H = 4294967296 * (b * (H / b) + H % b) := by rw [h1]
    rw [h2, Nat.mul_add, Nat.mul_left_comm]
    omega
  refine ⟨by rw [e, Nat.add_mul_div_left _ _ hb], by rw [e, Nat.add_mul_mod_self_left], ?_⟩
  rw [Nat.div_lt_iff_lt_mul hb]
  have h3 := Nat.mod_lt H hb
  have h4 : (H % b + 1) * 4294967296 ≤ b * 4294967296 := Nat.mul_le_mul_right _ h3
  rw [Nat.add_mul] at h4
  rw [Nat.mul_comm 4294967296 b]
  omega

theorem drop_cons_getD (Z : List Nat) (i : Nat) (h : i < Z.length) : Z.drop i = Z[i]?.getD 0 :: Z.drop (i + 1) := by
  rw [List.drop_eq_getElem_cons h]; simp [h]

/-- What comes of going through the digits from behind. -/
theorem divF_seq (b : Nat) (hb : 0 < b) (hb2 : b ≤ 4294967296) (Z : List Nat) (hZ : small Z) : ∀ j, j ≤ Z.length → (divF b Z.length (seqB Z j)).1 = val (Z.drop (Z.length - j)) % b ∧ val ((divF b Z.length (seqB Z j)).2.drop (Z.length - j)) = val (Z.drop (Z.length - j)) / b ∧ small (divF b Z.length (seqB Z j)).2 := by
  intro j
  induction j with
  | zero => intro _; simp only [seqB, divF, List.range_zero, List.map_nil, List.foldl_nil, Nat.sub_zero, List.drop_length]; refine ⟨by simp [val], by simp [val], small_replicate _⟩
  | succ j ih =>
    intro hj
    obtain ⟨h1, h2, h3⟩ := ih (by omega)
    have hlen := divF_length b Z.length (seqB Z j)
    rw [seqB_succ, divF_snoc]
    obtain ⟨i, hi⟩ : ∃ i, i = Z.length - (j + 1) := ⟨_, rfl⟩
    have hi2 : Z.length - 1 - j = i := by omega
    have hi3 : Z.length - j = i + 1 := by omega
    rw [hi3] at h1 h2
    rw [hi2, ← hi]
    have hd := small_getD hZ i
    have hZi := drop_cons_getD Z i (by omega)
    have har := div_arith b (val (Z.drop (i + 1))) (Z[i]?.getD 0) hb hd
    have hp : pairN (divF b Z.length (seqB Z j)).1 (Z[i]?.getD 0) = val (Z.drop (i + 1)) % b * 4294967296 + Z[i]?.getD 0 := by
      rw [h1]; exact pairN_small _ _ b (Nat.mod_lt _ hb) hb2
    refine ⟨?_, ?_, ?_⟩
    · show pairN (divF b Z.length (seqB Z j)).1 (Z[i]?.getD 0) % b = _
      rw [hp, hZi, val, har.2.1]
    · show val (((divF b Z.length (seqB Z j)).2.set i (quoN b (pairN (divF b Z.length (seqB Z j)).1 (Z[i]?.getD 0)))).drop i) = _
      rw [drop_cons_getD _ i (by rw [List.length_set, hlen]; omega), List.getElem?_set_self (by rw [hlen]; omega), Option.getD_some, List.drop_set_of_lt (by omega), val, h2, hp, hZi, val, har.1, quoN, Nat.mod_eq_of_lt har.2.2]
    · exact small_set h3 _ _ (quoN_lt _ _)

theorem divF_all (b : Nat) (hb : 0 < b) (hb2 : b ≤ 4294967296) (Z : List Nat) (hZ : small Z) : (divF b Z.length (seqB Z Z.length)).1 = val Z % b ∧ val (divF b Z.length (seqB Z Z.length)).2 = val Z / b ∧ small (divF b Z.length (seqB Z Z.length)).2 := by
  have h := divF_seq b hb hb2 Z hZ Z.length (Nat.le_refl _)
  rw [Nat.sub_self, List.drop_zero, List.drop_zero] at h
  exact h
end Go.Proofs.Ytceonncbflmciaa
