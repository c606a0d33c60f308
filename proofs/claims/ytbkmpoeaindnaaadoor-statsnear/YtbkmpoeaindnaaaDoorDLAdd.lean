/- levellingref08.Add. -/
import Derived.Test.YtbkmpoeaindnaaaDoorDList
import Derived.Test.YtbkmpoeaindnaaaDoorDyOne
namespace Go.Proofs.YtbkmpoeaindnaaaDoor.N
open Go.RowKit Go.Shelf

set_option maxRecDepth 100000 in
set_option maxHeartbeats 4000000 in
theorem rladd_c (va vb : Value) (n : Nat) (A B : Nat → Int) (u : Int) (w : World) (hA : Dls w va n A u) (hB : Dls w vb n B u) (hn1 : 1 ≤ n) (hn : n ≤ 100) (hu0 : u ≤ 0) (hu : -20000 ≤ u)
    (bA : ∀ q, q < n → (A q).natAbs < BIG) (bB : ∀ q, q < n → (B q).natAbs < BIG) (bS : ∀ q, q < n → (A q + B q).natAbs < BIG) :
    Calls Tryd.prog 68 #[va, vb] w fun r w' => (∃ v, r = .returned (.tuple #[v, .bool true]) ∧ Dls w' v n (fun q => A q + B q) u) ∧ Below w.heap.size w w' := by
  obtain ⟨_, ab, acap, rfl, hac, hal, hac3⟩ := id hA
  obtain ⟨_, bb, bcap, rfl, hbc, hbl, hbc3⟩ := id hB
  go_enter Tryd.func68, Tryd.ntmps68
  go_wp2_with fail
  go_loopw [6, 7] (fun v j wr => ∃ k : Nat, k ≤ n ∧ j = .int .i64 (k : Int) ∧ OwnD wr w.heap.size v k (fun q => A q + B q) u ∧ Below w.heap.size w wr) (fun _ j _ => n - (intOf j).toNat)
  case atStart => exact ⟨0, Nat.zero_le _, by simp, OwnD.nil _ _ _ _, Below.refl _ _⟩
  case round =>
    obtain ⟨k, hk, rfl, HO, B3⟩ := hrel
    by_cases hlt : k < n
    · obtain ⟨n1, v1, e1, c0, c1, c2, d1⟩ := hac3 k hlt
      obtain ⟨n2, v2, e2, p0, p1, p2, d2⟩ := hbc3 k hlt
      obtain ⟨a1, l1, cp1, rfl⟩ := d1.shape
      obtain ⟨a2, l2, cp2, rfl⟩ := d2.shape
      have mk : ∀ w', Below w.heap.size w w' → (w'.cell? ⟨ab, k * 3, none⟩ = some (.bool n1) ∧ w'.cell? ⟨ab, k * 3 + 1, none⟩ = some (.slice a1 l1 cp1) ∧ w'.cell? ⟨ab, k * 3 + 2, none⟩ = some (.int .i64 e1) ∧ w'.cell? ⟨bb, k * 3, none⟩ = some (.bool n2) ∧ w'.cell? ⟨bb, k * 3 + 1, none⟩ = some (.slice a2 l2 cp2) ∧ w'.cell? ⟨bb, k * 3 + 2, none⟩ = some (.int .i64 e2)) := fun w' hw =>
        ⟨(hw.cell (p := ⟨ab, k * 3, none⟩) hal).trans c0, (hw.cell (p := ⟨ab, k * 3 + 1, none⟩) hal).trans c1, (hw.cell (p := ⟨ab, k * 3 + 2, none⟩) hal).trans c2, (hw.cell (p := ⟨bb, k * 3, none⟩) hbl).trans p0, (hw.cell (p := ⟨bb, k * 3 + 1, none⟩) hbl).trans p1, (hw.cell (p := ⟨bb, k * 3 + 2, none⟩) hbl).trans p2⟩
      have bD : Below w.heap.size w wr.drew := B3.drew
      have kA : Calls Tryd.prog 22 #[dyv n1 (.slice a1 l1 cp1) e1, dyv n2 (.slice a2 l2 cp2) e2] wr.drew fun r w' => DyR r w' (A k + B k) u ∧ Below wr.heap.size wr.drew w' := rdadd_c n1 n2 _ _ e1 e2 (A k) (B k) u wr.drew (d1.below bD (Nat.le_refl _)) (d2.below bD (Nat.le_refl _)) hu0 hu (bA k hlt) (bB k hlt) (bS k hlt)
      have hk0 : (0 : Int) ≤ (k : Int) := Int.natCast_nonneg _
      have hk1 : (k : Int) < (n : Int) := by omega
      have hk9 : k ≤ 1000 := by omega
      clear c0 c1 c2 p0 p1 p2 hac3 hbc3 bA bB bS
      go_wp2_with fail
      go_region_held3 (fun w' => w'.cell? ⟨ab, k * 3, none⟩ = some (.bool n1) ∧ w'.cell? ⟨ab, k * 3 + 1, none⟩ = some (.slice a1 l1 cp1) ∧ w'.cell? ⟨ab, k * 3 + 2, none⟩ = some (.int .i64 e1) ∧ w'.cell? ⟨bb, k * 3, none⟩ = some (.bool n2) ∧ w'.cell? ⟨bb, k * 3 + 1, none⟩ = some (.slice a2 l2 cp2) ∧ w'.cell? ⟨bb, k * 3 + 2, none⟩ = some (.int .i64 e2)) (exact mk _ (by assumption))
        ((first | (go_at_call 22; (with_reducible refine kA.mono ?_); rintro r w3 ⟨⟨n3, v3, e3, rfl, D3⟩, hb3⟩; have B4 : Below w.heap.size w w3 := bD.trans (hb3.mono bD.size); have B4a := B4.alloc B4.size (dcells n3 v3 e3); have O4 := HO.laid ((below_drew wr).trans hb3) (dcells n3 v3 e3); have D4 := D3.laid (dcells n3 v3 e3); have X4 : (w3.alloc (dcells n3 v3 e3)).heap[w3.heap.size]? = some (dcells n3 v3 e3) := heap_alloc_new _ _; have N4 : w.heap.size ≤ (w3.alloc (dcells n3 v3 e3)).heap.size := B4a.size) | (refine step_append_dy _ (by rfl) _ _ (by rfl) w.heap.size _ k (fun q => A q + B q) u (by rfl) O4 w3.heap.size 1 n3 v3 e3 (by rfl) X4 D4 hk9 N4 ?_; intro g cap w5 O5 hg5 hge5; have B5 : Below w.heap.size w w5 := Below.grown B4a hg5 N4 hge5)))
      all_goals
        go_wp2_with fail
        go_roundw
        case rel => exact ⟨k + 1, by omega, by go_num, O5, B5⟩
        case measure => simp [intOf]; omega
    · obtain rfl : k = n := by omega
      go_wp2_with fail
      go_ret2
      exact ⟨⟨_, rfl, HO.dls (by omega) (by omega)⟩, B3⟩
end Go.Proofs.YtbkmpoeaindnaaaDoor.N
