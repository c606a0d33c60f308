/- levellingref08.Row. -/
import Derived.BigQuiet
import Derived.Test.YtbkmpoeaindnaaaDoorDZero
import Derived.Test.YtbkmpoeaindnaaaDoorDyTwo
import Derived.Test.YtbkmpoeaindnaaaDoorDyThree
namespace Go.Proofs.YtbkmpoeaindnaaaDoor.N
open Go.RowKit Go.Shelf Rnd

/-- A row, as a value, and in a box. -/
abbrev rwv (x : Value) (y : Nat) : Value := .agg #[x, fl y]
def RB (W : World) (B : Nat) (x : Value) (y : Nat) : Prop := W.heap[B]? = some (.cells #[x, fl y] 94)
theorem RB.lt {W : World} {B : Nat} {x : Value} {y : Nat} (h : RB W B x y) : B < W.heap.size := (Array.getElem?_eq_some_iff.1 h).1
theorem RB.below {W W' : World} {B : Nat} {x : Value} {y : Nat} (h : RB W B x y) (hb : Below W.heap.size W W') : RB W' B x y := (hb.block B h.lt).trans h
theorem RB.c0 {W : World} {B : Nat} {x : Value} {y : Nat} (h : RB W B x y) : W.cell? ⟨B, 0, none⟩ = some x := by simp [World.cell?, show W.heap[B]? = _ from h]
theorem RB.c1 {W : World} {B : Nat} {x : Value} {y : Nat} (h : RB W B x y) : W.cell? ⟨B, 1, none⟩ = some (fl y) := by simp [World.cell?, show W.heap[B]? = _ from h]
theorem RB.new (w : World) (x : Value) (y : Nat) : RB (w.alloc (.cells #[x, fl y] 94)) w.heap.size x y := Go.Deep.blk_alloc_new _ _
theorem below_alloc (w : World) (o : Obj) : Below w.heap.size w (w.alloc o) := (Below.refl _ w).alloc (Nat.le_refl _) _
theorem place_s (n r : Nat) : place n (r + 1) = place n r + (n + 1 - r) := rfl
theorem place_end : ∀ n, n ≤ 6 → place n (n + 1) = szN n := by decide
theorem place_le : ∀ n, n ≤ 6 → ∀ i, i ≤ n → place n i + (n + 1 - i) ≤ 28 := by decide

set_option maxRecDepth 100000 in
set_option maxHeartbeats 8000000 in
theorem rrow_c (sx : Value) (xs : List Nat) (n : Nat) (w : World) (hF : Fls w sx xs) (hl : xs.length = n) (h1 : 1 ≤ n) (h6 : n ≤ 6) (L : Nat → Nat) (hL : ∀ j, j < n → xs[j]?.getD 0 = L j)
    (h64 : ∀ j, L j < 18446744073709551616) (hf : ∀ j, L j % 2 ^ 63 < Ieee.double.infRung) (hb : ∀ j, (sv (L j)).natAbs < BIG) (hp : ∀ i j, (sv (L i) * sv (L j)).natAbs < BIG) :
    Calls Tryd.prog 67 #[rwv sx (L n)] w fun r w' => (∃ v, r = .returned (.tuple #[v, .bool true]) ∧ Dls w' v (szN n) (pairZ n fun i j => sv (L i) * sv (L j)) (-2148)) ∧ Below w.heap.size w w' := by
  obtain ⟨xb, xo, cap, rfl, hxb, hcap, hcs⟩ := hF.cell (by omega)
  have hsz := sizeZ_pos (c := (n : Int)) (by omega)
  have hs0 : (sizeZ (n : Int) == 0) = false := by simp; omega
  have hcx : ∀ j, j < n → w.cell? ⟨xb, xo + j, none⟩ = some (fl (L j)) := fun j hj => by rw [← hL j hj]; exact hcs j (by omega)
  have HZ : Hid (∀ i j, i ≤ j → j ≤ n → pairZ n (fun i j => sv (L i) * sv (L j)) (place n i + (j - i)) = sv (L i) * sv (L j)) := fun i j hij hj => pairZ_at _ h6 hij hj
  rw [hl] at hcap ⊢
  clear hcs hF hl hL
  have X0 := RB.new w (.slice (some ⟨xb, xo, none⟩) n cap) (L n)
  have B0 := below_alloc w (.cells #[.slice (some ⟨xb, xo, none⟩) n cap, fl (L n)] 94)
  go_enter Tryd.func67, Tryd.ntmps67
  go_wp2_with fail
  refine (rsize_c _ _).mono ?_
  rintro e w1 ⟨rfl, rfl⟩
  go_wp2_with fail
  clear hsz
  go_loopw [4, 5] (fun v i wr => ∃ k : Nat, k ≤ n ∧ i = .int .i64 (k : Int) ∧ OwnD wr (w.heap.size + 1) v k (fun q => sv (L q)) (-1074) ∧ RB wr w.heap.size (.slice (some ⟨xb, xo, none⟩) n cap) (L n) ∧ Below w.heap.size w wr) (fun _ i _ => n - (intOf i).toNat)
  case atStart => exact ⟨0, Nat.zero_le _, by simp, OwnD.nil _ _ _ _, X0, B0⟩
  case round =>
    clear X0 B0
    obtain ⟨k, hk, rfl, HO, X, B⟩ := hrel
    have x0 := X.c0
    by_cases hlt : k < n
    · have hc := (B.cell (p := ⟨xb, xo + k, none⟩) hxb).trans (hcx k hlt)
      have hk0 : (0 : Int) ≤ (k : Int) := Int.natCast_nonneg _
      have hk1 : (k : Int) < (n : Int) := by omega
      go_wp2_with fail
      refine (rdfrom_c (L k) (h64 k) (hf k) _).mono ?_
      rintro r w2 ⟨⟨n2, v2, e2, rfl, D2⟩, hb2⟩
      obtain ⟨a2, l2, c2, rfl⟩ := D2.shape
      have O2 := HO.below hb2
      have X2 := X.below hb2
      have B2 := B.trans (hb2.mono B.size)
      clear hb2 x0 hc
      have Bd := below_alloc w2 (dcells n2 (.slice a2 l2 c2) e2)
      have O3 := (O2.below Bd).below (below_alloc _ (dcells n2 (.slice a2 l2 c2) e2))
      have D3 := (D2.laid (dcells n2 (.slice a2 l2 c2) e2)).laid (dcells n2 (.slice a2 l2 c2) e2)
      have X3 := (X2.below Bd).below (below_alloc _ (dcells n2 (.slice a2 l2 c2) e2))
      have B3 := (B2.trans (Bd.mono B2.size)).trans ((below_alloc (w2.alloc (dcells n2 (.slice a2 l2 c2) e2)) (dcells n2 (.slice a2 l2 c2) e2)).mono (by have := B2.size; simp; omega))
      have E3 : ((w2.alloc (dcells n2 (.slice a2 l2 c2) e2)).alloc (dcells n2 (.slice a2 l2 c2) e2)).heap[w2.heap.size + 1]? = some (dcells n2 (.slice a2 l2 c2) e2) := by
        have h := heap_alloc_new (w2.alloc (dcells n2 (.slice a2 l2 c2) e2)) (dcells n2 (.slice a2 l2 c2) e2)
        rwa [World.size_alloc] at h
      have N3 : w.heap.size + 1 ≤ ((w2.alloc (dcells n2 (.slice a2 l2 c2) e2)).alloc (dcells n2 (.slice a2 l2 c2) e2)).heap.size := X3.lt
      have hk9 : k ≤ 1000 := by omega
      go_wp2_with (at_builtin; refine wpList_append_dy _ rfl _ _ rfl (w.heap.size + 1) _ k (fun q => sv (L q)) (-1074) rfl O3 (w2.heap.size + 1) 1 n2 (.slice a2 l2 c2) e2 rfl E3 D3 hk9 N3 ?_; intro g cp w5 O5 hg5 hge5)
      have X5 : RB w5 w.heap.size (.slice (some ⟨xb, xo, none⟩) n cap) (L n) := (hg5.block w.heap.size X3.lt (fun e => by have := hge5 _ e.symm; omega)).trans X3
      have B5 : Below w.heap.size w w5 := Below.grown B3 hg5 (by omega) (fun q e => by have := hge5 q e; omega)
      go_roundw
      case rel => exact ⟨k + 1, by omega, by go_num, O5, X5, B5⟩
      case measure => simp [intOf]; omega
    · obtain rfl : k = n := by omega
      have x1 := X.c1
      go_wp2_with fail
      refine (rdfrom_c (L k) (h64 k) (hf k) _).mono ?_
      rintro r w2 ⟨⟨n2, v2, e2, rfl, D2⟩, hb2⟩
      obtain ⟨a2, l2, c2, rfl⟩ := D2.shape
      have O2 := HO.below hb2
      have X2 := X.below hb2
      have B2 := B.trans (hb2.mono B.size)
      clear hb2 x0 x1
      have Bd := below_alloc w2 (dcells n2 (.slice a2 l2 c2) e2)
      have O3 := (O2.below Bd).below (below_alloc _ (dcells n2 (.slice a2 l2 c2) e2))
      have D3 := (D2.laid (dcells n2 (.slice a2 l2 c2) e2)).laid (dcells n2 (.slice a2 l2 c2) e2)
      have X3 := (X2.below Bd).below (below_alloc _ (dcells n2 (.slice a2 l2 c2) e2))
      have B3 := (B2.trans (Bd.mono B2.size)).trans ((below_alloc (w2.alloc (dcells n2 (.slice a2 l2 c2) e2)) (dcells n2 (.slice a2 l2 c2) e2)).mono (by have := B2.size; simp; omega))
      have E3 : ((w2.alloc (dcells n2 (.slice a2 l2 c2) e2)).alloc (dcells n2 (.slice a2 l2 c2) e2)).heap[w2.heap.size + 1]? = some (dcells n2 (.slice a2 l2 c2) e2) := by
        have h := heap_alloc_new (w2.alloc (dcells n2 (.slice a2 l2 c2) e2)) (dcells n2 (.slice a2 l2 c2) e2)
        rwa [World.size_alloc] at h
      have N3 : w.heap.size + 1 ≤ ((w2.alloc (dcells n2 (.slice a2 l2 c2) e2)).alloc (dcells n2 (.slice a2 l2 c2) e2)).heap.size := X3.lt
      have hk9 : k ≤ 1000 := by omega
      go_wp2_with (at_builtin; refine wpList_append_dy _ rfl _ _ rfl (w.heap.size + 1) _ k (fun q => sv (L q)) (-1074) rfl O3 (w2.heap.size + 1) 1 n2 (.slice a2 l2 c2) e2 rfl E3 D3 hk9 N3 ?_; intro g cp w5 O5 hg5 hge5)
      have B5 : Below w.heap.size w w5 := Below.grown B3 hg5 (by omega) (fun q e => by have := hge5 q e; omega)
      have LD := O5.dls (by omega) (by omega)
      obtain ⟨_, gb, gc, ge, hgc, hgl, hg3⟩ := LD
      cases ge
      clear O2 O3 D2 D3 X2 X3 B2 B3 E3 N3 hg5 hge5 O5 Bd HO X B hcx
      go_loopw [10, 11] (fun v i wr => ∃ m : Nat, m ≤ k + 1 ∧ i = .int .i64 (m : Int) ∧ OwnD wr w5.heap.size v (place k m) (pairZ k fun i j => sv (L i) * sv (L j)) (-2148) ∧ Below w5.heap.size w5 wr) (fun _ i _ => k + 1 - (intOf i).toNat)
      case atStart => exact ⟨0, Nat.zero_le _, by simp, OwnD.nil _ _ _ _, Below.refl _ _⟩
      case round =>
        obtain ⟨m, hm, rfl, HO, B⟩ := hrel
        by_cases hlt2 : m < k + 1
        · go_wp2_with fail
          go_loopw [10, 12] (fun v i wr => ∃ t : Nat, m ≤ t ∧ t ≤ k + 1 ∧ i = .int .i64 (t : Int) ∧ OwnD wr w5.heap.size v (place k m + (t - m)) (pairZ k fun i j => sv (L i) * sv (L j)) (-2148) ∧ Below w5.heap.size w5 wr) (fun _ i _ => k + 1 - (intOf i).toNat)
          case atStart => exact ⟨m, Nat.le_refl _, hm, rfl, by rw [Nat.sub_self]; exact HO, B⟩
          case round =>
            clear HO B
            obtain ⟨t, hmt, ht, rfl, HO, B⟩ := hrel
            by_cases hlt3 : t < k + 1
            · obtain ⟨n1, v1, e1, c0, c1, c2, d1⟩ := hg3 m hlt2
              obtain ⟨n3, v3, e3, p0, p1, p2, d3⟩ := hg3 t hlt3
              obtain ⟨a1, l1, cp1, rfl⟩ := d1.shape
              obtain ⟨a3, l3, cp3, rfl⟩ := d3.shape
              have mk : ∀ w', Below w5.heap.size w5 w' → (w'.cell? ⟨g, m * 3, none⟩ = some (.bool n1) ∧ w'.cell? ⟨g, m * 3 + 1, none⟩ = some (.slice a1 l1 cp1) ∧ w'.cell? ⟨g, m * 3 + 2, none⟩ = some (.int .i64 e1) ∧ w'.cell? ⟨g, t * 3, none⟩ = some (.bool n3) ∧ w'.cell? ⟨g, t * 3 + 1, none⟩ = some (.slice a3 l3 cp3) ∧ w'.cell? ⟨g, t * 3 + 2, none⟩ = some (.int .i64 e3)) := fun w' hw =>
                ⟨(hw.cell (p := ⟨g, m * 3, none⟩) hgl).trans c0, (hw.cell (p := ⟨g, m * 3 + 1, none⟩) hgl).trans c1, (hw.cell (p := ⟨g, m * 3 + 2, none⟩) hgl).trans c2, (hw.cell (p := ⟨g, t * 3, none⟩) hgl).trans p0, (hw.cell (p := ⟨g, t * 3 + 1, none⟩) hgl).trans p1, (hw.cell (p := ⟨g, t * 3 + 2, none⟩) hgl).trans p2⟩
              have bD : Below w5.heap.size w5 wr.drew := B.drew
              have kA : Calls Tryd.prog 23 #[dyv n1 (.slice a1 l1 cp1) e1, dyv n3 (.slice a3 l3 cp3) e3] wr.drew fun r w' => DyR r w' (pairZ k (fun i j => sv (L i) * sv (L j)) (place k m + (t - m))) (-2148) ∧ Below wr.heap.size wr.drew w' := by
                rw [HZ.out m t hmt (by omega)]
                exact rdmul_c n1 n3 _ _ e1 e3 (sv (L m)) (sv (L t)) (-1074) (-1074) wr.drew (d1.below bD (Nat.le_refl _)) (d3.below bD (Nat.le_refl _)) (by decide) (by decide) (by decide) (hb m) (hb t) (hp m t)
              have hm0 : (0 : Int) ≤ (m : Int) := Int.natCast_nonneg _
              have ht0 : (0 : Int) ≤ (t : Int) := Int.natCast_nonneg _
              have hm1 : (m : Int) < (k : Int) + 1 := by omega
              have ht1 : (t : Int) < (k : Int) + 1 := by omega
              have hk9 : place k m + (t - m) ≤ 1000 := by have := place_le k h6 m (by omega); omega
              have HS : Hid (place k m + (t - m) + 1 = place k m + (t + 1 - m)) := by show _ = _; omega
              clear c0 c1 c2 p0 p1 p2
              generalize place k m + (t - m) = q at *
              go_wp2_with fail
              go_region_held3 (fun w' => w'.cell? ⟨g, m * 3, none⟩ = some (.bool n1) ∧ w'.cell? ⟨g, m * 3 + 1, none⟩ = some (.slice a1 l1 cp1) ∧ w'.cell? ⟨g, m * 3 + 2, none⟩ = some (.int .i64 e1) ∧ w'.cell? ⟨g, t * 3, none⟩ = some (.bool n3) ∧ w'.cell? ⟨g, t * 3 + 1, none⟩ = some (.slice a3 l3 cp3) ∧ w'.cell? ⟨g, t * 3 + 2, none⟩ = some (.int .i64 e3)) (exact mk _ (by assumption))
                ((first | (go_at_call 23; (with_reducible refine kA.mono ?_); rintro r w6 ⟨⟨n6, v6, e6, rfl, D6⟩, hb6⟩; have B6 : Below w5.heap.size w5 w6 := bD.trans (hb6.mono bD.size); have B6a := B6.alloc B6.size (dcells n6 v6 e6); have O6 := HO.laid ((below_drew wr).trans hb6) (dcells n6 v6 e6); have D7 := D6.laid (dcells n6 v6 e6); have X6 : (w6.alloc (dcells n6 v6 e6)).heap[w6.heap.size]? = some (dcells n6 v6 e6) := heap_alloc_new _ _; have N6 : w5.heap.size ≤ (w6.alloc (dcells n6 v6 e6)).heap.size := B6a.size) | (refine step_append_dy _ (by rfl) _ _ (by rfl) w5.heap.size _ q (pairZ k fun i j => sv (L i) * sv (L j)) (-2148) (by rfl) O6 w6.heap.size 1 n6 v6 e6 (by rfl) X6 D7 hk9 N6 ?_; intro gg cap6 w7 O7 hg7 hge7; have B7 : Below w5.heap.size w5 w7 := Below.grown B6a hg7 N6 hge7)))
              all_goals
                go_wp2_with fail
                go_roundw
                case rel => exact ⟨t + 1, by omega, by omega, by go_num, by rw [← HS.out]; exact O7, B7⟩
                case measure => simp [intOf]; omega
            · obtain rfl : t = k + 1 := by omega
              go_wp2_with fail
              go_roundw
              case rel => exact ⟨m + 1, by omega, by go_num, HO, B⟩
              case measure => simp [intOf]; omega
        · obtain rfl : m = k + 1 := by omega
          go_wp2_with fail
          go_ret2
          rw [place_end k h6] at HO
          have hs := szN_small h1 h6
          exact ⟨⟨_, rfl, HO.dls (by omega) (by omega)⟩, B5.trans (B.mono B5.size)⟩
end Go.Proofs.YtbkmpoeaindnaaaDoor.N
