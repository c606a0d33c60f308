/- levellingref09.entry, .norms. -/
import Derived.Deep.RegionHeld3
import Derived.Test.YtdccjlaneobldaaDoorDZero
import Derived.Test.YtdccjlaneobldaaDoorDyTwo
import Derived.Test.YtdccjlaneobldaaDoorDyOne
namespace Go.Proofs.YtdccjlaneobldaaDoor.N
open Go.RowKit Go.Shelf Rnd

theorem below_alloc' (w : World) (o : Obj) : Below w.heap.size w (w.alloc o) := (Below.refl _ w).alloc (Nat.le_refl _) _
set_option maxRecDepth 100000 in
set_option maxHeartbeats 4000000 in
theorem rentry_c (va : Value) (n i : Nat) (A : Nat → Int) (u : Int) (w : World) (hA : Dls w va (szN n) A u) (h1 : 1 ≤ n) (h6 : n ≤ 6) (hi : i ≤ n) :
    Calls Tryd.prog 62 #[.int .i64 (n : Int), va, .int .i64 (i : Int), .int .i64 (i : Int)] w fun r w' => DyR r w' (A (place n i)) u ∧ Below w.heap.size w w' := by
  obtain ⟨_, ab, acap, rfl, hac, hal, hac3⟩ := id hA
  have hpl : place n i < szN n := by have := place_in n h6 i hi; unfold szN; omega
  have hsN := szN_small h1 h6
  obtain ⟨n1, v1, e1, c0, c1, c2, d1⟩ := hac3 (place n i) hpl
  obtain ⟨a1, l1, cp1, rfl⟩ := d1.shape
  have R0 := DBox.new w false (.slice none 0 0) 0
  have hB := below_alloc' w (dcells false (.slice none 0 0) 0)
  have c0' := (hB.cell (p := ⟨ab, place n i * 3, none⟩) hal).trans c0
  have c1' := (hB.cell (p := ⟨ab, place n i * 3 + 1, none⟩) hal).trans c1
  have c2' := (hB.cell (p := ⟨ab, place n i * 3 + 2, none⟩) hal).trans c2
  have hat : place n i + (i - i) = place n i := by omega
  have KA := rat_yes n i i (w.alloc (dcells false (.slice none 0 0) 0)) h1 h6 (Nat.le_refl _) hi
  rw [hat] at KA
  clear hac3 c0 c1 c2 hat
  generalize place n i = q at *
  generalize szN n = s at *
  have hq0 : (0 : Int) ≤ (q : Int) := Int.natCast_nonneg _
  have hq1 : (q : Int) < (s : Int) := by omega
  have KM := rdmay_c n1 _ e1 (A q) u _ (d1.below hB (Nat.le_refl _))
  go_enter Tryd.func62, Tryd.ntmps62
  go_wp2_with fail
  refine KA.mono ?_
  rintro r w1 ⟨rfl, rfl⟩
  go_wp2_with fail
  refine KM.mono ?_
  rintro r w2 ⟨rfl, hb2⟩
  have R6 := R0.below hb2 R0.lt
  have B6 := hB.trans (hb2.mono hB.size)
  have hR6 := (d1.below hB (Nat.le_refl _)).below hb2 (Nat.le_refl _)
  have q0 := R6.c0
  have q1 := R6.c1
  have q2 := R6.c2
  have t0 := R6.fz 0
  have t1 := R6.fz 1
  have t2 := R6.fz 2
  have p7 := R6.put n1 (.slice a1 l1 cp1) e1
  have hR7 := hR6.keep R6 (fun _ hn => putD_blk w2 hn n1 (.slice a1 l1 cp1) e1)
  have hB7 := putD_below B6 (B := w.heap.size) (Nat.le_refl _) n1 (.slice a1 l1 cp1) e1
  unfold putD at p7 hR7 hB7
  clear KM KA hb2 R0 hB R6 B6 c0' c1' c2'
  go_wp2_with fail
  exact bodyPost_ret_by (v := dyv n1 (.slice a1 l1 cp1) e1) (dy_results rfl p7 rfl) rfl ⟨⟨n1, _, e1, rfl, hR7⟩, hB7⟩

set_option maxRecDepth 100000 in
set_option maxHeartbeats 4000000 in
theorem rnorms_c (va : Value) (n : Nat) (A : Nat → Int) (w : World) (hA : Dls w va (szN n) A (-4296)) (h1 : 1 ≤ n) (h6 : n ≤ 6) (hp : ∀ i, i ≤ n → 0 ≤ A (place n i)) (hz : ∀ i, i ≤ n → (A (place n i)).natAbs < 2 ^ zK) :
    Calls Tryd.prog 41 #[.int .i64 (n : Int), va] w fun r w' => (∃ (v : Value) (U : Nat → Nat), r = .returned v ∧ Dls w' v (n + 1) (fun q => (U q : Int)) (-2212) ∧ ∀ i, i ≤ n → (A (place n i)).natAbs * 2 ^ 128 ≤ U i * U i ∧ U i < 2 ^ uK) ∧ Below w.heap.size w w' := by
  obtain ⟨_, ab, acap, rfl, hac, hal, hac3⟩ := id hA
  clear hac3
  go_enter Tryd.func41, Tryd.ntmps41
  go_wp2_with fail
  go_loopw [5, 6] (fun v j wr => ∃ (k : Nat) (U : Nat → Nat), k ≤ n + 1 ∧ j = .int .i64 (k : Int) ∧ OwnD wr w.heap.size v k (fun q => (U q : Int)) (-2212) ∧ Hid (∀ i, i < k → (A (place n i)).natAbs * 2 ^ 128 ≤ U i * U i ∧ U i < 2 ^ uK) ∧ Below w.heap.size w wr) (fun _ j _ => n + 1 - (intOf j).toNat)
  case atStart => exact ⟨0, fun _ => 0, Nat.zero_le _, by simp, OwnD.nil _ _ _ _, fun i hi => absurd hi (by omega), Below.refl _ _⟩
  case round =>
    obtain ⟨k, U, hk, rfl, HO, HU, B⟩ := hrel
    by_cases hlt : k ≤ n
    · have KE := rentry_c _ n k A (-4296) wr (hA.below B) h1 h6 hlt
      have hp' := hp k hlt
      have hz' := hz k hlt
      have hk0 : (0 : Int) ≤ (k : Int) := Int.natCast_nonneg _
      go_wp2_with fail
      refine KE.mono ?_
      rintro r w2 ⟨⟨n2, v2, e2, rfl, D2⟩, hb2⟩
      have KU := rup_c n2 v2 e2 _ w2 D2 hp' hz'
      have O2 := HO.below hb2
      have B2 := B.trans (hb2.mono B.size)
      clear hb2 KE HO B D2
      go_wp2_with fail
      refine KU.mono ?_
      rintro r w3 ⟨⟨u, ⟨n3, v3, e3, rfl, D3⟩, hu1, hu2⟩, hb3⟩
      obtain ⟨a3, l3, c3, rfl⟩ := D3.shape
      obtain ⟨U', HU'⟩ : ∃ U' : Nat → Nat, U' = fun q => if q = k then u else U q := ⟨_, rfl⟩
      have e1 : U' k = u := by rw [HU']; exact if_pos rfl
      have e2 : ∀ j, j < k → U' j = U j := fun j hj => by rw [HU']; exact if_neg (by omega)
      have HU5 : Hid (∀ i, i < k + 1 → (A (place n i)).natAbs * 2 ^ 128 ≤ U' i * U' i ∧ U' i < 2 ^ uK) := by
        intro i hi
        by_cases c : i = k
        · subst c
          rw [e1]
          exact ⟨hu1, hu2⟩
        · rw [e2 i (by omega)]
          exact HU.out i (by omega)
      have O3 := (O2.laid hb3 (dcells n3 (.slice a3 l3 c3) e3)).congr (Z' := fun q => (U' q : Int)) (fun j hj => by show (U j : Int) = (U' j : Int); rw [e2 j hj])
      have B3 := B2.trans (hb3.mono B2.size)
      have B3a := B3.alloc B3.size (dcells n3 (.slice a3 l3 c3) e3)
      have D4 : Dy (w3.alloc (dcells n3 (.slice a3 l3 c3) e3)) n3 (.slice a3 l3 c3) e3 (U' k : Int) (-2212) := by rw [e1]; exact D3.laid _
      have X4 : (w3.alloc (dcells n3 (.slice a3 l3 c3) e3)).heap[w3.heap.size]? = some (dcells n3 (.slice a3 l3 c3) e3) := heap_alloc_new _ _
      have N4 : w.heap.size ≤ (w3.alloc (dcells n3 (.slice a3 l3 c3) e3)).heap.size := B3a.size
      have hk9 : k ≤ 1000 := by omega
      clear hu1 hu2 hb3 D3 O2 B2 B3 KU hp' hz' e1 e2 HU'
      go_wp2_with (at_builtin; go_loud (refine wpList_append_dy _ rfl _ _ rfl w.heap.size _ k (fun q => (U' q : Int)) (-2212) rfl O3 w3.heap.size 1 n3 (.slice a3 l3 c3) e3 rfl X4 D4 hk9 N4 ?_; intro g cp w5 O5 hg5 hge5))
      have B5 : Below w.heap.size w w5 := Below.grown B3a hg5 N4 hge5
      go_roundw
      case rel => exact ⟨k + 1, U', by omega, by go_num, O5, HU5, B5⟩
      case measure => simp [intOf]; omega
    · obtain rfl : k = n + 1 := by omega
      go_wp2_with fail
      go_ret
      exact ⟨⟨_, U, rfl, HO.dls (by omega) (by omega), fun i hi => HU.out i (by omega)⟩, B⟩

end Go.Proofs.YtdccjlaneobldaaDoor.N
