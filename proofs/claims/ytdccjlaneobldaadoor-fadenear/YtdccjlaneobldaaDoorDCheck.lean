/- levellingref09.Check. -/
import Derived.BigQuiet
import Derived.Deep.RegionHeld3
import Derived.Deep.CutRange
import Derived.Test.YtdccjlaneobldaaDoorDNorms
namespace Go.Proofs.YtdccjlaneobldaaDoor.N
open Go.RowKit Go.Shelf Rnd

theorem ordN_le {x y : Nat} (h : x ≤ y) : ordN x y ≤ 0 := by
  unfold ordN
  split
  · decide
  · rw [if_neg (by omega)]
    decide
theorem meetB {w1 w4 : World} {P : Nat} {n6 : Bool} {v6 : Value} {e6 z g : Int} (bb : Below w1.heap.size w1 w4) (X : DBox w4 P false (.slice none 0 0) 0) (hP : w1.heap.size ≤ P) (D : Dy w4 n6 v6 e6 z g) :
    Below w1.heap.size w1 (((w4.setCell ⟨P, 0, none⟩ (.bool n6)).setCell ⟨P, 1, none⟩ v6).setCell ⟨P, 2, none⟩ (.int .i64 e6)) ∧ DX (((w4.setCell ⟨P, 0, none⟩ (.bool n6)).setCell ⟨P, 1, none⟩ v6).setCell ⟨P, 2, none⟩ (.int .i64 e6)) P n6 v6 e6 z g :=
  ⟨putD_below bb hP n6 v6 e6, X.put n6 v6 e6, D.keep X (fun _ hn => putD_blk w4 hn n6 v6 e6)⟩
set_option maxRecDepth 100000 in
set_option maxHeartbeats 4000000 in
theorem rcheck9_c (va vb : Value) (n : Nat) (N G : Nat → Int) (w : World) (hN : Dls w va (szN n) N (-4296)) (hG : Dls w vb (szN n) G (-4296)) (h1 : 1 ≤ n) (h6 : n ≤ 6) (hp : ∀ i, i ≤ n → 0 ≤ N (place n i)) (hz : ∀ i, i ≤ n → (N (place n i)).natAbs < 2 ^ zK)
    (bN : ∀ q, q < szN n → (N q).natAbs < BIG) (bG : ∀ q, q < szN n → (G q).natAbs < BIG) (bD : ∀ q, q < szN n → (G q - N q).natAbs * pw 181 < BIG)
    (near : ∀ i j a b, i ≤ j → j ≤ n → (N (place n i)).natAbs * 2 ^ 128 ≤ a * a → (N (place n j)).natAbs * 2 ^ 128 ≤ b * b → (G (place n i + (j - i)) - N (place n i + (j - i))).natAbs * pw 181 ≤ bnd a b) :
    Calls Tryd.prog 23 #[.int .i64 (n : Int), va, va, vb, .int .i64 1] w fun r w' => r = .returned (.tuple #[.int .i64 0, .bool true]) ∧ Below w.heap.size w w' := by
  obtain ⟨_, ab, acap, rfl, hac, hal, hac3⟩ := id hN
  obtain ⟨_, gb, gcap, rfl, hgc, hgl, hgc3⟩ := id hG
  have hsN := szN_small h1 h6
  have HSZ : Hid (sizeZ (n : Int) = (szN n : Int)) := sizeZ_nat n h1 h6
  have hs0 : ((szN n : Int) == 0) = false := by simp; omega
  go_enter Tryd.func23, Tryd.ntmps23
  go_wp2_with fail
  refine (rsize_c _ _).mono ?_
  rw [HSZ.out]
  rintro e w1 ⟨rfl, hw1⟩
  subst w1
  go_wp2_with fail
  refine (rnorms_c _ n N w hN h1 h6 hp hz).mono ?_
  rintro e w1 ⟨⟨v1, U, rfl, DU, hU⟩, B1⟩
  have hN1 := hN.below B1
  have hG1 := hG.below B1
  obtain ⟨_, ub, ucap, rfl, huc, hul, huc3⟩ := id DU
  have hal1 : ab < w1.heap.size := Nat.lt_of_lt_of_le hal B1.size
  have hgl1 : gb < w1.heap.size := Nat.lt_of_lt_of_le hgl B1.size
  clear hac3 hgc3 hN hG hac hgc hal hgl
  obtain ⟨_, _, _, ea, _, _, hac3⟩ := hN1
  cases ea
  obtain ⟨_, _, _, eg, _, _, hgc3⟩ := hG1
  cases eg
  go_wp2_with fail
  go_loopw [14] (fun i wr => ∃ k : Nat, k ≤ n + 1 ∧ i = .int .i64 (k : Int) ∧ Below w1.heap.size w1 wr) (fun i _ => n + 1 - (intOf i).toNat)
  case atStart => exact ⟨0, Nat.zero_le _, by simp, Below.refl _ _⟩
  case round =>
    obtain ⟨k, hk, rfl, B⟩ := hrel
    by_cases hlt : k ≤ n
    · go_wp2_with fail
      go_loopw [15] (fun i wr => ∃ t : Nat, k ≤ t ∧ t ≤ n + 1 ∧ i = .int .i64 (t : Int) ∧ Below w1.heap.size w1 wr) (fun i _ => n + 1 - (intOf i).toNat)
      case atStart => exact ⟨k, Nat.le_refl _, hk, rfl, B⟩
      case round =>
        clear B
        obtain ⟨t, hkt, ht, rfl, B⟩ := hrel
        by_cases hlt2 : t ≤ n
        · have hpl : place n k + (t - k) < szN n := by have := place_in n h6 k hlt; unfold szN; omega
          have HNEAR : Hid ((G (place n k + (t - k)) - N (place n k + (t - k))).natAbs * pw 181 ≤ bnd (U k) (U t)) := near k t (U k) (U t) hkt hlt2 (hU k hlt).1 (hU t hlt2).1
          have KAt := rat_yes n k t wr h1 h6 hkt hlt2
          have bn := bN _ hpl
          have bg := bG _ hpl
          have bd := bD _ hpl
          obtain ⟨n1, v1, e1, c0, c1, c2, d1⟩ := hgc3 _ hpl
          obtain ⟨n2, v2, e2, p0, p1, p2, d2⟩ := hac3 _ hpl
          obtain ⟨n3, v3, e3, q0, q1, q2, d3⟩ := huc3 k (by omega)
          obtain ⟨n4, v4, e4, r0, r1, r2, d4⟩ := huc3 t (by omega)
          obtain ⟨a1, l1, cp1, rfl⟩ := d1.shape
          obtain ⟨a2, l2, cp2, rfl⟩ := d2.shape
          obtain ⟨a3, l3, cp3, rfl⟩ := d3.shape
          obtain ⟨a4, l4, cp4, rfl⟩ := d4.shape
          generalize place n k + (t - k) = q at *
          have mk : ∀ w', Below w1.heap.size w1 w' → (w'.cell? ⟨gb, q * 3, none⟩ = some (.bool n1) ∧ w'.cell? ⟨gb, q * 3 + 1, none⟩ = some (.slice a1 l1 cp1) ∧ w'.cell? ⟨gb, q * 3 + 2, none⟩ = some (.int .i64 e1) ∧ w'.cell? ⟨ab, q * 3, none⟩ = some (.bool n2) ∧ w'.cell? ⟨ab, q * 3 + 1, none⟩ = some (.slice a2 l2 cp2) ∧ w'.cell? ⟨ab, q * 3 + 2, none⟩ = some (.int .i64 e2)) := fun w' hw =>
            ⟨(hw.cell (p := ⟨gb, q * 3, none⟩) hgl1).trans c0, (hw.cell (p := ⟨gb, q * 3 + 1, none⟩) hgl1).trans c1, (hw.cell (p := ⟨gb, q * 3 + 2, none⟩) hgl1).trans c2, (hw.cell (p := ⟨ab, q * 3, none⟩) hal1).trans p0, (hw.cell (p := ⟨ab, q * 3 + 1, none⟩) hal1).trans p1, (hw.cell (p := ⟨ab, q * 3 + 2, none⟩) hal1).trans p2⟩
          have kS : ∀ W, Below w1.heap.size w1 W → Calls Tryd.prog 44 #[dyv n1 (.slice a1 l1 cp1) e1, dyv n2 (.slice a2 l2 cp2) e2] W fun r w' => DyR r w' (G q - N q) (-4296) ∧ Below w1.heap.size w1 w' ∧ Below W.heap.size W w' := fun W hW =>
            (rdsub_c n1 n2 _ _ e1 e2 (G q) (N q) (-4296) W (d1.below hW (Nat.le_refl _)) (d2.below hW (Nat.le_refl _)) (by decide) (by decide) bg bn (Nat.lt_of_le_of_lt (Nat.le_mul_of_pos_right _ (Nat.pow_pos (by decide))) bd)).mono fun r w' ⟨o1, o2⟩ => ⟨o1, hW.trans (o2.mono hW.size), o2⟩
          have kA : ∀ W nn vv ee, Below w1.heap.size w1 W → Dy W nn vv ee (G q - N q) (-4296) → Calls Tryd.prog 43 #[dyv nn vv ee] W fun r w' => DyR r w' ((G q - N q).natAbs : Int) (-4296) ∧ Below w1.heap.size w1 w' ∧ Below W.heap.size W w' := fun W nn vv ee hW hd =>
            (rabs_c nn vv ee (G q - N q) (-4296) W hd (by decide) (by decide) (Nat.lt_of_le_of_lt (Nat.le_mul_of_pos_right _ (Nat.pow_pos (by decide))) bd)).mono fun r w' ⟨o1, o2⟩ => ⟨o1, hW.trans (o2.mono hW.size), o2⟩
          have hq0 : (0 : Int) ≤ (q : Int) := Int.natCast_nonneg _
          have hq1 : (q : Int) < (szN n : Int) := by omega
          clear c0 c1 c2 p0 p1 p2 hac3 hgc3 huc3
          go_wp2_with fail
          refine KAt.mono ?_
          rintro r w2 ⟨rfl, hw2⟩
          subst w2
          go_wp2_with fail
          have bA0 : Below w1.heap.size w1 wr.drew := B.drew
          have bA3 : Below w1.heap.size w1 (wr.drew.alloc (dcells false (.slice none 0 0) 0)) := bA0.alloc B.size _
          have XB : DBox (wr.drew.alloc (dcells false (.slice none 0 0) 0)) wr.heap.size false (.slice none 0 0) 0 := DBox.new wr.drew _ _ _
          have bA2 : Below w1.heap.size w1 (wr.alloc (dcells false (.slice none 0 0) 0)).drew := (B.alloc B.size _).drew
          have XB2 : DBox (wr.alloc (dcells false (.slice none 0 0) 0)).drew wr.heap.size false (.slice none 0 0) 0 := (DBox.new wr _ _ _).below (below_drew _) (DBox.new wr _ _ _).lt
          have HB : Hid (w1.heap.size ≤ wr.heap.size) := B.size
          go_cut [18] from 58 to 93 (fun s18 wx => ∃ (P : Nat) (nn : Bool) (vv : Value) (ee : Int), s18 = .pointer (some ⟨P, 0, none⟩) ∧ DX wx P nn vv ee ((G q - N q).natAbs : Int) (-4296) ∧ Below w1.heap.size w1 wx)
          case first =>
            go_region_held3 (fun w' => w'.cell? ⟨gb, q * 3, none⟩ = some (.bool n1) ∧ w'.cell? ⟨gb, q * 3 + 1, none⟩ = some (.slice a1 l1 cp1) ∧ w'.cell? ⟨gb, q * 3 + 2, none⟩ = some (.int .i64 e1) ∧ w'.cell? ⟨ab, q * 3, none⟩ = some (.bool n2) ∧ w'.cell? ⟨ab, q * 3 + 1, none⟩ = some (.slice a2 l2 cp2) ∧ w'.cell? ⟨ab, q * 3 + 2, none⟩ = some (.int .i64 e2)) (first | exact mk _ (by assumption) | exact mk _ mm.1)
              ((first
                | (go_at_call 44; (with_reducible refine (kS wr.drew bA0).mono ?_); rintro r w3 ⟨⟨n5, v5, e5, rfl, D5⟩, bb3, bb3'⟩; have bb3a := bb3.alloc bb3.size (dcells false (.slice none 0 0) 0); have D5a := D5.laid (dcells false (.slice none 0 0) 0); have XC : DBox (w3.alloc (dcells false (.slice none 0 0) 0)) w3.heap.size false (.slice none 0 0) 0 := DBox.new w3 _ _ _)
                | (go_at_call 44; (with_reducible refine (kS (wr.drew.alloc (dcells false (.slice none 0 0) 0)) bA3).mono ?_); rintro r w3 ⟨⟨n5, v5, e5, rfl, D5⟩, bb3, bb3'⟩; have X3 := XB.below bb3' XB.lt)
                | (go_at_call 44; (with_reducible refine (kS (wr.alloc (dcells false (.slice none 0 0) 0)).drew bA2).mono ?_); rintro r w3 ⟨⟨n5, v5, e5, rfl, D5⟩, bb3, bb3'⟩; have X3 := XB2.below bb3' XB2.lt)
                | (go_at_call 43; (with_reducible refine (kA w3 n5 v5 e5 bb3 D5).mono ?_); rintro r w4 ⟨⟨n6, v6, e6, rfl, D6⟩, bb4, bb4'⟩; have X4 := X3.below bb4' X3.lt; obtain ⟨a6, l6, c6, rfl⟩ := D6.shape; have g0 := X4.c0; have g1 := X4.c1; have g2 := X4.c2; have z0 := X4.fz 0; have z1 := X4.fz 1; have z2 := X4.fz 2; have mm := meetB bb4 X4 HB.out D6)
                | (go_at_call 43; (with_reducible refine (kA (w3.alloc (dcells false (.slice none 0 0) 0)) n5 v5 e5 bb3a D5a).mono ?_); rintro r w4 ⟨⟨n6, v6, e6, rfl, D6⟩, bb4, bb4'⟩; have X4 := XC.below bb4' XC.lt; obtain ⟨a6, l6, c6, rfl⟩ := D6.shape; have g0 := X4.c0; have g1 := X4.c1; have g2 := X4.c2; have z0 := X4.fz 0; have z1 := X4.fz 1; have z2 := X4.fz 2; have mm := meetB bb4 X4 bb3.size D6)
                | (go_at_call 43; (with_reducible refine (kA w3 n5 v5 e5 bb3 D5).mono ?_); rintro r w4 ⟨⟨n6, v6, e6, rfl, D6⟩, bb4, bb4'⟩; obtain ⟨a6, l6, c6, rfl⟩ := D6.shape; have bb4a := bb4.alloc bb4.size (dcells false (.slice none 0 0) 0); have mm : Below w1.heap.size w1 (w4.alloc (dcells n6 (.slice a6 l6 c6) e6)) ∧ DX (w4.alloc (dcells n6 (.slice a6 l6 c6) e6)) w4.heap.size n6 (.slice a6 l6 c6) e6 ((G q - N q).natAbs : Int) (-4296) := ⟨bb4.alloc bb4.size _, DX.new D6⟩)))
            all_goals
              go_wp2_with fail
              go_meet
              exact ⟨_, n6, _, e6, rfl, mm.2, mm.1⟩
          case rest =>
            obtain ⟨P, n6, v6, e6, rfl, X6, B6⟩ := hcut
            clear bA0 bA3 XB bA2 XB2 HB kS kA mk KAt B
            obtain ⟨a6, l6, c6, rfl⟩ := X6.d.shape
            have mk : ∀ w', Below wc.heap.size wc w' → (w'.cell? ⟨P, 0, none⟩ = some (.bool n6) ∧ w'.cell? ⟨P, 1, none⟩ = some (.slice a6 l6 c6) ∧ w'.cell? ⟨P, 2, none⟩ = some (.int .i64 e6) ∧ w'.cell? ⟨ub, k * 3, none⟩ = some (.bool n3) ∧ w'.cell? ⟨ub, k * 3 + 1, none⟩ = some (.slice a3 l3 cp3) ∧ w'.cell? ⟨ub, k * 3 + 2, none⟩ = some (.int .i64 e3) ∧ w'.cell? ⟨ub, t * 3, none⟩ = some (.bool n4) ∧ w'.cell? ⟨ub, t * 3 + 1, none⟩ = some (.slice a4 l4 cp4) ∧ w'.cell? ⟨ub, t * 3 + 2, none⟩ = some (.int .i64 e4)) := fun w' hw' => by
              have hw := B6.trans (hw'.mono B6.size)
              have p := (X6.below hw').x
              exact ⟨p.c0, p.c1, p.c2, (hw.cell (p := ⟨ub, k * 3, none⟩) hul).trans q0, (hw.cell (p := ⟨ub, k * 3 + 1, none⟩) hul).trans q1, (hw.cell (p := ⟨ub, k * 3 + 2, none⟩) hul).trans q2, (hw.cell (p := ⟨ub, t * 3, none⟩) hul).trans r0, (hw.cell (p := ⟨ub, t * 3 + 1, none⟩) hul).trans r1, (hw.cell (p := ⟨ub, t * 3 + 2, none⟩) hul).trans r2⟩
            have bdr : Below wc.heap.size wc wc.drew := below_drew _
            have sB := bnd_small (hU k hlt).2 (hU t hlt2).2
            have kB : Calls Tryd.prog 46 #[dyv n3 (.slice a3 l3 cp3) e3, dyv n4 (.slice a4 l4 cp4) e4, .int .i64 1] wc.drew fun r w' => DyR r w' (bnd (U k) (U t) : Int) (-4477) ∧ Below wc.heap.size wc w' := by
              have hw := B6.trans (bdr.mono B6.size)
              exact (rbound_c n3 n4 _ _ e3 e4 (U k) (U t) wc.drew (d3.below hw (Nat.le_refl _)) (d4.below hw (Nat.le_refl _)) (hU k hlt).2 (hU t hlt2).2).mono fun r w' ⟨o1, o2⟩ => ⟨o1, bdr.trans o2⟩
            have bndB : bnd (U k) (U t) < BIG := by rw [← bnd_eq]; exact sB.2.2.2.2.2.2.2.2.2
            obtain ⟨o, ho, hoc⟩ : ∃ o : Int, o ≤ 0 ∧ ordN ((G q - N q).natAbs * pw 181) (bnd (U k) (U t)) = o := ⟨_, ordN_le HNEAR.out, rfl⟩
            have kC : ∀ W nn vv ee, Below wc.heap.size wc W → Dy W nn vv ee (bnd (U k) (U t) : Int) (-4477) → Calls Tryd.prog 45 #[dyv n6 (.slice a6 l6 c6) e6, dyv nn vv ee] W fun r w' => r = .returned (.int .i64 o) ∧ Below wc.heap.size wc w' := by
              intro W nn vv ee hW hd
              have hx := ((X6.below hW).d).unit (g' := -4477) (by decide)
              have e : ((2 ^ ((-4296 : Int) - (-4477)).toNat : Nat) : Int) = (pw 181 : Int) := by rw [pow_pw (k := -4296) (g := -4477) (n := 181) (by decide)]
              rw [e, ← Int.natCast_mul] at hx
              have h := rdcmp_c n6 nn _ vv e6 ee _ _ (-4477) W hx hd (by decide) (by rw [Int.natAbs_natCast]; exact bd) (by rw [Int.natAbs_natCast]; exact bndB) (Int.natCast_nonneg _) (Int.natCast_nonneg _)
              rw [Int.natAbs_natCast, Int.natAbs_natCast, hoc] at h
              exact h.mono fun r w' ⟨o1, o2⟩ => ⟨o1, hW.trans (o2.mono hW.size)⟩
            clear q0 q1 q2 r0 r1 r2 hoc bndB sB bn bg bd
            have ho' : ¬ (0 : Int) < o := Int.not_lt.2 ho
            have hk0 : (0 : Int) ≤ (k : Int) := Int.natCast_nonneg _
            have ht0 : (0 : Int) ≤ (t : Int) := Int.natCast_nonneg _
            have hk1 : (k : Int) < (n : Int) + 1 := by omega
            have ht1 : (t : Int) < (n : Int) + 1 := by omega
            go_wp2_with fail
            go_region_held3 (fun w' => w'.cell? ⟨P, 0, none⟩ = some (.bool n6) ∧ w'.cell? ⟨P, 1, none⟩ = some (.slice a6 l6 c6) ∧ w'.cell? ⟨P, 2, none⟩ = some (.int .i64 e6) ∧ w'.cell? ⟨ub, k * 3, none⟩ = some (.bool n3) ∧ w'.cell? ⟨ub, k * 3 + 1, none⟩ = some (.slice a3 l3 cp3) ∧ w'.cell? ⟨ub, k * 3 + 2, none⟩ = some (.int .i64 e3) ∧ w'.cell? ⟨ub, t * 3, none⟩ = some (.bool n4) ∧ w'.cell? ⟨ub, t * 3 + 1, none⟩ = some (.slice a4 l4 cp4) ∧ w'.cell? ⟨ub, t * 3 + 2, none⟩ = some (.int .i64 e4)) (exact mk _ (by assumption))
              ((first
                | (go_at_call 46; (with_reducible refine kB.mono ?_); rintro r w7 ⟨⟨n7, v7, e7, rfl, D7⟩, b7⟩)
                | (go_at_call 45; (with_reducible refine (kC w7 n7 v7 e7 b7 D7).mono ?_); rintro r w8 ⟨rfl, b8⟩)))
            all_goals
              go_wp2_with fail
              go_roundw
              case rel =>
                first
                  | exact ⟨t + 1, by omega, by omega, by go_num, B6.trans (b8.mono B6.size)⟩
                  | ((repeat apply Exists.intro); exact ⟨⟨t + 1, by omega, by omega, by go_num, B6.trans (b8.mono B6.size)⟩, rfl⟩)
              case measure => simp [intOf]; omega
        · obtain rfl : t = n + 1 := by omega
          go_wp2_with fail
          go_roundw
          case rel => exact ⟨k + 1, by omega, by go_num, B⟩
          case measure => simp [intOf]; omega
    · obtain rfl : k = n + 1 := by omega
      go_wp2_with fail
      go_ret2
      exact ⟨rfl, B1.trans (B.mono B1.size)⟩
end Go.Proofs.YtdccjlaneobldaaDoor.N
