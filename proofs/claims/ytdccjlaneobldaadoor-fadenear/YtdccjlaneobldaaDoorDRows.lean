/- levellingref08.Rows. -/
import Derived.BigQuiet
import Derived.Test.YtdccjlaneobldaaDoorDRowC
import Derived.Test.YtdccjlaneobldaaDoorDLAdd
namespace Go.Proofs.YtdccjlaneobldaaDoor.N
open Go.RowKit Go.Shelf Rnd

/-- A list of m rows of n entries, and one more: L r j is what stands at row r, column j. -/
def Rws (W : World) (v : Value) (m n : Nat) (L : Nat → Nat → Nat) : Prop :=
  ∃ b cap, v = .slice (some ⟨b, 0, none⟩) m cap ∧ m ≤ cap ∧ b < W.heap.size ∧ ∀ r, r < m → ∃ sx xs, W.cell? ⟨b, r * 2, none⟩ = some sx ∧ W.cell? ⟨b, r * 2 + 1, none⟩ = some (fl (L r n)) ∧ Fls W sx xs ∧ xs.length = n ∧ (∀ j, j < n → xs[j]?.getD 0 = L r j)
theorem Rws.below {W W' : World} {v : Value} {m n : Nat} {L : Nat → Nat → Nat} (h : Rws W v m n L) (hb : Below W.heap.size W W') : Rws W' v m n L := by
  obtain ⟨b, cap, e, h1, h2, h3⟩ := h
  refine ⟨b, cap, e, h1, Nat.lt_of_lt_of_le h2 hb.size, fun r hr => ?_⟩
  obtain ⟨sx, xs, c0, c1, f, l, hj⟩ := h3 r hr
  exact ⟨sx, xs, (hb.cell (p := ⟨b, r * 2, none⟩) h2).trans c0, (hb.cell (p := ⟨b, r * 2 + 1, none⟩) h2).trans c1, f.below hb (Nat.le_refl _), l, hj⟩
/-- The sum over the first k rows of what stands in columns i and j, times one another. -/
def gsum (L : Nat → Nat → Nat) : Nat → Nat → Nat → Int
  | 0, _, _ => 0
  | k + 1, i, j => gsum L k i j + sv (L k i) * sv (L k j)

set_option maxRecDepth 100000 in
set_option maxHeartbeats 8000000 in
theorem rrows_c (v : Value) (m n : Nat) (w : World) (L : Nat → Nat → Nat) (hR : Rws w v m n L) (hm : m ≤ 100) (h1 : 1 ≤ n) (h6 : n ≤ 6)
    (h64 : ∀ r j, L r j < 18446744073709551616) (hf : ∀ r j, L r j % 2 ^ 63 < Ieee.double.infRung) (hb : ∀ r j, (sv (L r j)).natAbs < BIG) (hp : ∀ r i j, (sv (L r i) * sv (L r j)).natAbs < BIG) (hS : ∀ k i j, k ≤ m → (gsum L k i j).natAbs < BIG) :
    Calls Tryd.prog 36 #[.int .i64 (n : Int), v] w fun r w' => (∃ v, r = .returned (.tuple #[v, .bool true]) ∧ Dls w' v (szN n) (pairZ n (gsum L m)) (-2148)) ∧ Below w.heap.size w w' := by
  obtain ⟨b, cap, rfl, hcap, hbl, hrow⟩ := hR
  have hsz := sizeZ_pos (c := (n : Int)) (by omega)
  have hs0 : (sizeZ (n : Int) == 0) = false := by simp; omega
  have hsN := szN_small h1 h6
  clear hsz
  go_enter Tryd.func36, Tryd.ntmps36
  go_wp2_with fail
  refine (rsize_c _ _).mono ?_
  rintro e w1 ⟨rfl, hw1⟩
  subst w1
  go_wp2_with fail
  refine (rzero_c n (-2148) _ h1 h6).mono ?_
  rintro e w1 ⟨⟨v1, rfl, D1⟩, B1⟩
  have hsum : ∀ k, k < m → ∀ q, (pairZ n (gsum L k) q).natAbs < BIG ∧ (pairZ n (fun i j => sv (L k i) * sv (L k j)) q).natAbs < BIG ∧ (pairZ n (gsum L k) q + pairZ n (fun i j => sv (L k i) * sv (L k j)) q).natAbs < BIG := fun k hk q => ⟨hS k _ _ (by omega), hp k _ _, hS (k + 1) _ _ (by omega)⟩
  have hstep : ∀ k, (fun q => pairZ n (gsum L k) q + pairZ n (fun i j => sv (L k i) * sv (L k j)) q) = pairZ n (gsum L (k + 1)) := fun k => rfl
  have hzero : (fun _ => (0 : Int)) = pairZ n (gsum L 0) := rfl
  rw [hzero] at D1
  clear hzero hS
  go_wp2_with fail
  go_loopw [6, 7] (fun v i wr => ∃ k : Nat, k ≤ m ∧ i = .int .i64 (k : Int) ∧ Dls wr v (szN n) (pairZ n (gsum L k)) (-2148) ∧ Below w.heap.size w wr) (fun _ i _ => m - (intOf i).toNat)
  case atStart => exact ⟨0, Nat.zero_le _, by simp, D1, B1⟩
  case round =>
    clear D1 B1
    obtain ⟨k, hk, rfl, D, B⟩ := hrel
    by_cases hlt : k < m
    · obtain ⟨sx, xs, c0, c1, F, hxl, hxs⟩ := hrow k hlt
      have c0' := (B.cell (p := ⟨b, k * 2, none⟩) hbl).trans c0
      have c1' := (B.cell (p := ⟨b, k * 2 + 1, none⟩) hbl).trans c1
      obtain ⟨xa, xc, rfl, hxc⟩ := F.shape
      rw [hxl] at c0' c0
      have K := rrow_c _ xs n wr (F.below B (Nat.le_refl _)) hxl h1 h6 (L k) hxs (h64 k) (hf k) (hb k) (hp k)
      rw [hxl] at K
      have hk0 : (0 : Int) ≤ (k : Int) := Int.natCast_nonneg _
      have hk1 : (k : Int) < (m : Int) := by omega
      have HC0 : Hid (w.cell? ⟨b, k * 2, none⟩ = some (.slice xa n xc)) := c0
      clear F hxl hxs hxc c0 c1
      go_wp2_with fail
      refine K.mono ?_
      rintro r w2 ⟨⟨v2, rfl, D2⟩, hb2⟩
      have D' := D.below hb2
      have B2 := B.trans (hb2.mono B.size)
      have c0'' := (B2.cell (p := ⟨b, k * 2, none⟩) hbl).trans HC0.out
      clear D hb2 c0' c1' K
      have KA := rladd_c _ v2 (szN n) _ _ (-2148) w2 D' D2 (by omega) (by omega) (by decide) (by decide) (fun q _ => (hsum k hlt q).1) (fun q _ => (hsum k hlt q).2.1) (fun q _ => (hsum k hlt q).2.2)
      rw [hstep k] at KA
      clear D2
      go_wp2_with fail
      refine KA.mono ?_
      rintro r w3 ⟨⟨v3, rfl, D3⟩, hb3⟩
      have B3 := B2.trans (hb3.mono B2.size)
      go_wp2_with fail
      go_roundw
      case rel => exact ⟨k + 1, by omega, by go_num, D3, B3⟩
      case measure => simp [intOf]; omega
    · obtain rfl : k = m := by omega
      go_wp2_with fail
      go_ret2
      exact ⟨⟨_, rfl, D⟩, B⟩
end Go.Proofs.YtdccjlaneobldaaDoor.N
