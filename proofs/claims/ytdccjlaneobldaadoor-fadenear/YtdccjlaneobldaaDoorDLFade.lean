/- levellingref08.Fade. -/
import Derived.Test.YtdccjlaneobldaaDoorDList
import Derived.Test.YtdccjlaneobldaaDoorDyTwo
namespace Go.Proofs.YtdccjlaneobldaaDoor.N
open Go.RowKit Go.Shelf Rnd

set_option maxRecDepth 100000 in
set_option maxHeartbeats 4000000 in
theorem rlfade_c (va : Value) (n : Nat) (A : Nat → Int) (u : Int) (x : Nat) (w : World) (hA : Dls w va n A u) (hx : x < 18446744073709551616) (hf : x % 2 ^ 63 < Ieee.double.infRung) (hn1 : 1 ≤ n) (hn : n ≤ 100) (hu0 : u ≤ 0) (hu : -10000 ≤ u)
    (bX : (sv x).natAbs < BIG) (bA : ∀ q, q < n → (A q).natAbs < BIG) (bB : ∀ q, q < n → (A q * sv x).natAbs < BIG) (bS : ∀ q, q < n → (A q * sv x * sv x).natAbs < BIG) :
    Calls Tryd.prog 22 #[va, fl x] w fun r w' => (∃ v, r = .returned (.tuple #[v, .bool true]) ∧ Dls w' v n (fun q => A q * sv x * sv x) (u + -1074 + -1074)) ∧ Below w.heap.size w w' := by
  obtain ⟨_, ab, acap, rfl, hac, hal, hac3⟩ := id hA
  go_enter Tryd.func22, Tryd.ntmps22
  go_wp2_with fail
  refine (rdfrom_c x hx hf _).mono ?_
  rintro r w1 ⟨⟨nd, vd, ed, rfl, DD⟩, hb1⟩
  obtain ⟨ad, ld, cd, rfl⟩ := DD.shape
  have X1 := DX.new DD
  have B1 : Below w.heap.size w (w1.alloc (dcells nd (.slice ad ld cd) ed)) := hb1.alloc hb1.size _
  have L1 : Hid (w.heap.size ≤ w1.heap.size) := hb1.size
  clear hb1 DD
  go_wp2_with fail
  generalize hP : w1.heap.size = P at *
  generalize w1.alloc (dcells nd (.slice ad ld cd) ed) = W at *
  have hPl : P < W.heap.size := X1.x.lt
  go_loopw [8, 9] (fun v j wr => ∃ k : Nat, k ≤ n ∧ j = .int .i64 (k : Int) ∧ OwnD wr W.heap.size v k (fun q => A q * sv x * sv x) (u + -1074 + -1074) ∧ Below W.heap.size W wr) (fun _ j _ => n - (intOf j).toNat)
  case atStart => exact ⟨0, Nat.zero_le _, by simp, OwnD.nil _ _ _ _, Below.refl _ _⟩
  case round =>
    obtain ⟨k, hk, rfl, HO, B3⟩ := hrel
    by_cases hlt : k < n
    · obtain ⟨n1, v1, e1, c0, c1, c2, d1⟩ := hac3 k hlt
      obtain ⟨a1, l1, cp1, rfl⟩ := d1.shape
      have mk : ∀ w', Below W.heap.size W w' → (w'.cell? ⟨ab, k * 3, none⟩ = some (.bool n1) ∧ w'.cell? ⟨ab, k * 3 + 1, none⟩ = some (.slice a1 l1 cp1) ∧ w'.cell? ⟨ab, k * 3 + 2, none⟩ = some (.int .i64 e1) ∧ w'.cell? ⟨P, 0, none⟩ = some (.bool nd) ∧ w'.cell? ⟨P, 1, none⟩ = some (.slice ad ld cd) ∧ w'.cell? ⟨P, 2, none⟩ = some (.int .i64 ed)) := fun w' hw' => by
        have hw := B1.trans (hw'.mono B1.size)
        have p := (X1.below hw').x
        exact ⟨(hw.cell (p := ⟨ab, k * 3, none⟩) hal).trans c0, (hw.cell (p := ⟨ab, k * 3 + 1, none⟩) hal).trans c1, (hw.cell (p := ⟨ab, k * 3 + 2, none⟩) hal).trans c2, p.c0, p.c1, p.c2⟩
      have bD : Below W.heap.size W wr.drew := B3.drew
      have kA : Calls Tryd.prog 39 #[dyv n1 (.slice a1 l1 cp1) e1, dyv nd (.slice ad ld cd) ed] wr.drew fun r w' => DyR r w' (A k * sv x) (u + -1074) ∧ Below W.heap.size W w' ∧ Below wr.heap.size wr w' := by
        have h := rdmul_c n1 nd _ _ e1 ed (A k) (sv x) u (-1074) wr.drew (d1.below (B1.trans (bD.mono B1.size)) (Nat.le_refl _)) (X1.below bD).d hu0 (by decide) (by omega) (bA k hlt) bX (bB k hlt)
        exact h.mono fun r w' ⟨o1, o2⟩ => ⟨o1, bD.trans (o2.mono bD.size), (below_drew wr).trans o2⟩
      have kB : ∀ w3 n3 v3 e3, Below W.heap.size W w3 → Below wr.heap.size wr w3 → Dy w3 n3 v3 e3 (A k * sv x) (u + -1074) → Calls Tryd.prog 39 #[dyv n3 v3 e3, dyv nd (.slice ad ld cd) ed] w3 fun r w' => DyR r w' (A k * sv x * sv x) (u + -1074 + -1074) ∧ Below W.heap.size W w' ∧ Below wr.heap.size wr w' := by
        intro w3 n3 v3 e3 hb hb' hd
        have h := rdmul_c n3 nd _ _ e3 ed (A k * sv x) (sv x) (u + -1074) (-1074) w3 hd (X1.below hb).d (by omega) (by decide) (by omega) (bB k hlt) bX (bS k hlt)
        exact h.mono fun r w' ⟨o1, o2⟩ => ⟨o1, hb.trans (o2.mono hb.size), hb'.trans (o2.mono hb'.size)⟩
      have hk0 : (0 : Int) ≤ (k : Int) := Int.natCast_nonneg _
      have hk1 : (k : Int) < (n : Int) := by omega
      clear c0 c1 c2 hac3 bA bB bS
      go_wp2_with fail
      go_region_held3 (fun w' => w'.cell? ⟨ab, k * 3, none⟩ = some (.bool n1) ∧ w'.cell? ⟨ab, k * 3 + 1, none⟩ = some (.slice a1 l1 cp1) ∧ w'.cell? ⟨ab, k * 3 + 2, none⟩ = some (.int .i64 e1) ∧ w'.cell? ⟨P, 0, none⟩ = some (.bool nd) ∧ w'.cell? ⟨P, 1, none⟩ = some (.slice ad ld cd) ∧ w'.cell? ⟨P, 2, none⟩ = some (.int .i64 ed)) (exact mk _ (by assumption))
        ((first | (go_at_call 39; (with_reducible refine kA.mono ?_); rintro r w2 ⟨⟨n2, v2, e2, rfl, D2⟩, hb2, hb2'⟩) | (go_at_call 39; (with_reducible refine (kB w2 n2 v2 e2 hb2 hb2' D2).mono ?_); rintro r w3 ⟨⟨n3, v3, e3, rfl, D3⟩, B4, hb3⟩; have B4a := B4.alloc B4.size (dcells n3 v3 e3); have O4 := HO.laid hb3 (dcells n3 v3 e3); have D4 := D3.laid (dcells n3 v3 e3); have X4 : (w3.alloc (dcells n3 v3 e3)).heap[w3.heap.size]? = some (dcells n3 v3 e3) := heap_alloc_new _ _; have N4 : W.heap.size ≤ (w3.alloc (dcells n3 v3 e3)).heap.size := B4a.size) | (refine step_append_dy _ (by rfl) _ _ (by rfl) W.heap.size _ k (fun q => A q * sv x * sv x) (u + -1074 + -1074) (by rfl) O4 w3.heap.size 1 n3 v3 e3 (by rfl) X4 D4 (by omega) N4 ?_; intro g cap w5 O5 hg5 hge5; have B5 : Below W.heap.size W w5 := Below.grown B4a hg5 N4 hge5)))
      all_goals
        go_wp2_with fail
        go_roundw
        case rel => exact ⟨k + 1, by omega, by go_num, O5, B5⟩
        case measure => simp [intOf]; omega
    · obtain rfl : k = n := by omega
      go_wp2_with fail
      go_ret2
      exact ⟨⟨_, rfl, HO.dls (by omega) (by omega)⟩, B1.trans (B3.mono B1.size)⟩
end Go.Proofs.YtdccjlaneobldaaDoor.N
