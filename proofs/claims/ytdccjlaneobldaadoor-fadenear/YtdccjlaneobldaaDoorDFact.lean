/- levellingref08.Factor: the Gram list of a factor that may be. -/
import Derived.Deep.RegionHeld3
import Derived.Test.YtdccjlaneobldaaDoorDLines
import Derived.Test.YtdccjlaneobldaaDoorFMath
namespace Go.Proofs.YtdccjlaneobldaaDoor.N
open Go.RowKit Go.Shelf Rnd

theorem sv_abs (x : Nat) : (sv x).natAbs = uv (x % 2 ^ 63) := by
  unfold sv
  split <;> omega
theorem uvt (e k : Nat) (h : 52 + e = k) : uv ((e + 1) * 2 ^ 52) = pw k := by
  subst h
  exact uv_pow e
theorem uv_top : uv 6498694262295625728 = pw 1494 := by
  rw [show (6498694262295625728 : Nat) = (1442 + 1) * 2 ^ 52 from by decide]
  exact uvt 1442 1494 rfl
theorem pw_pos (k : Nat) : 0 < pw k := Nat.pow_pos (by decide)
theorem pw_le {a b : Nat} (h : a ≤ b) : pw a ≤ pw b := Nat.pow_le_pow_right (by decide) h
/-- An entry that is not too great. -/
def okE (x : Nat) : Prop := x < 18446744073709551616 ∧ x % 2 ^ 63 ≤ 6498694262295625728
theorem okE.fin {x : Nat} (h : okE x) : x % 2 ^ 63 < Ieee.double.infRung := by
  rw [inf_eq]
  exact Nat.lt_of_le_of_lt h.2 (by decide)
theorem okE.le {x : Nat} (h : okE x) : (sv x).natAbs ≤ pw 1494 := by
  rw [sv_abs, ← uv_top]
  exact uv_le h.2
theorem okE.prod {x y : Nat} (h : okE x) (k : okE y) : (sv x * sv y).natAbs ≤ pw 2988 := by
  rw [Int.natAbs_mul, ← pow_mul' 1494 1494 2988 (by decide)]
  exact Nat.mul_le_mul h.le k.le
theorem okE_zero : okE 0 := ⟨by decide, by decide⟩
theorem ent_okE {n i j : Nat} {xs : List Nat} (h1 : okF xs) (h2 : xs.all leH = true) : okE (ent n xs i j) := by
  unfold ent
  split
  · by_cases hq : place n i + (j - i) < xs.length
    · refine ⟨okF_getD h1 _, ?_⟩
      have h := leH_at h2 hq
      rw [leH_eq] at h
      exact of_decide_eq_true h
    · rw [List.getElem?_eq_none (by omega)]
      exact okE_zero
  · exact okE_zero
theorem gsum_le {L : Nat → Nat → Nat} (h : ∀ r j, okE (L r j)) : ∀ k i j, (gsum L k i j).natAbs ≤ k * pw 2988
  | 0, _, _ => by simp [gsum]
  | k + 1, i, j => by
    have h1 := gsum_le h k i j
    have h2 := (h k i).prod (h k j)
    have h3 := Int.natAbs_add_le (gsum L k i j) (sv (L k i) * sv (L k j))
    simp only [gsum, Nat.add_mul, Nat.one_mul]
    omega
theorem gsum_small {L : Nat → Nat → Nat} (h : ∀ r j, okE (L r j)) {k : Nat} (hk : k ≤ 8) (i j : Nat) : (gsum L k i j).natAbs ≤ pw 2991 := by
  refine Nat.le_trans (gsum_le h k i j) ?_
  rw [← pow_mul' 3 2988 2991 (by decide)]
  exact Nat.mul_le_mul_right _ hk

set_option maxRecDepth 100000 in
set_option maxHeartbeats 8000000 in
theorem rgfactor_c (n : Nat) (r t : Int) (sv' : Value) (xs : List Nat) (w : World) (hF : Fls w sv' xs) (hck : checkB n xs r t = true) :
    Calls Tryd.prog 21 #[fv n sv' r t] w fun e w' => (∃ v, e = .returned (.tuple #[v, .bool true]) ∧ Dls w' v (szN n) (pairZ n (gsum (ent n xs) (n + 1))) (-2148)) ∧ Below w.heap.size w w' := by
  obtain ⟨n', hn', hn1, hn6, hlen⟩ := check_len hck
  obtain rfl : n = n' := by omega
  obtain ⟨a, cap, rfl, hcap⟩ := hF.shape
  have hl := hF.2.1
  have hE : ∀ r j, okE (ent n xs r j) := fun r j => ent_okE hF.1 (check_all hck)
  have KR : ∀ W v, Rws W v (n + 1) n (ent n xs) → Calls Tryd.prog 36 #[.int .i64 (n : Int), v] W fun r w' => (∃ v, r = .returned (.tuple #[v, .bool true]) ∧ Dls w' v (szN n) (pairZ n (gsum (ent n xs) (n + 1))) (-2148)) ∧ Below W.heap.size W w' := fun W v hR =>
    rrows_c v (n + 1) n W (ent n xs) hR (by omega) hn1 hn6 (fun r j => (hE r j).1) (fun r j => (hE r j).fin) (fun r j => Nat.lt_of_le_of_lt (hE r j).le (pw_big (by decide))) (fun r i j => Nat.lt_of_le_of_lt ((hE r i).prod (hE r j)) (pw_big (by decide))) (fun k i j hk => Nat.lt_of_le_of_lt (gsum_small hE (by omega) i j) (pw_big (by decide)))
  have HCK : Hid (checkB n xs r t = true) := hck
  clear hck hn' hlen hE
  have hB : Below w.heap.size w (w.alloc (fcells n (.slice a xs.length cap) r t)) := (Below.refl _ w).alloc (Nat.le_refl _) _
  have X := FBox.new w n (.slice a xs.length cap) r t
  go_enter Tryd.func21, Tryd.ntmps21
  go_wp2_with fail
  refine (rcheck_c n r t _ xs _ (hF.below hB (Nat.le_refl _))).mono ?_
  rw [HCK.out]
  rintro e w2 ⟨rfl, hb2⟩
  have X2 := X.below hb2 (Nat.le_refl _)
  have B2 := hB.trans (hb2.mono hB.size)
  clear X hB hb2
  have mk : ∀ w', Below w2.heap.size w2 w' → (w'.cell? ⟨w.heap.size, 0, none⟩ = some (.int .i64 (n : Int)) ∧ w'.cell? ⟨w.heap.size, 1, none⟩ = some (.slice a xs.length cap) ∧ w'.cell? ⟨w.heap.size, 2, none⟩ = some (.int .i64 r) ∧ w'.cell? ⟨w.heap.size, 3, none⟩ = some (.int .i64 t)) := fun w' hw => by
    have p := X2.below hw (Nat.le_refl _)
    exact ⟨p.c0, p.c1, p.c2, p.c3⟩
  have bd : Below w2.heap.size w2 w2.drew := (Below.refl _ _).drew
  have kL : Calls Tryd.prog 37 #[fv n (.slice a xs.length cap) r t] w2.drew fun e w' => (∃ v, e = .returned v ∧ Rws w' v (n + 1) n (ent n xs)) ∧ Below w2.heap.size w2 w' :=
    (rlines_c n r t _ xs w2.drew (hF.below (B2.trans (bd.mono B2.size)) (Nat.le_refl _)) HCK.out).mono fun e w' ⟨o1, o2⟩ => ⟨o1, bd.trans o2⟩
  have kR : ∀ W v, Below w2.heap.size w2 W → Rws W v (n + 1) n (ent n xs) → Calls Tryd.prog 36 #[.int .i64 (n : Int), v] W fun r w' => (∃ v, r = .returned (.tuple #[v, .bool true]) ∧ Dls w' v (szN n) (pairZ n (gsum (ent n xs) (n + 1))) (-2148)) ∧ Below w2.heap.size w2 w' := fun W v hW hR =>
    (KR W v hR).mono fun e w' ⟨o1, o2⟩ => ⟨o1, hW.trans (o2.mono hW.size)⟩
  clear KR
  go_wp2_with fail
  go_region_held3 (fun w' => w'.cell? ⟨w.heap.size, 0, none⟩ = some (.int .i64 (n : Int)) ∧ w'.cell? ⟨w.heap.size, 1, none⟩ = some (.slice a xs.length cap) ∧ w'.cell? ⟨w.heap.size, 2, none⟩ = some (.int .i64 r) ∧ w'.cell? ⟨w.heap.size, 3, none⟩ = some (.int .i64 t)) (exact mk _ (by assumption))
    ((first | (go_at_call 37; (with_reducible refine kL.mono ?_); rintro e w3 ⟨⟨v3, rfl, R3⟩, b3⟩) | (go_at_call 36; (with_reducible refine (kR w3 v3 b3 R3).mono ?_); rintro e w4 ⟨⟨v4, rfl, D4⟩, b4⟩)))
  all_goals
    go_wp2_with fail
    go_ret2
    exact ⟨⟨_, rfl, D4⟩, B2.trans (b4.mono B2.size)⟩
end Go.Proofs.YtdccjlaneobldaaDoor.N
