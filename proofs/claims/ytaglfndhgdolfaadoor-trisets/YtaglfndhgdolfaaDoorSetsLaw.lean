/- levellinglaw07.TriSets: the walk. -/
import Derived.Test.YtaglfndhgdolfaaDoorRefSame
import Derived.Test.YtaglfndhgdolfaaDoorTriMath
import Derived.Test.YtaglfndhgdolfaaDoorArgs
namespace Go.Proofs.YtaglfndhgdolfaaDoor
open Go.RowKit Go.Shelf

/-- What is known on the way: of the table, of two factors and their boxes, and of a list. -/
structure Sb (w W : World) (P Q : Nat) (c m t : Int) (u v lv : Value) (xs ys l : List Nat) : Prop where
  tab : Tab W
  b : Below w.heap.size w W
  p : FBox W P c u m t
  q : FBox W Q c v m t
  x : Fls W u xs
  y : Fls W v ys
  li : Fls W lv l
theorem Sb.below {w W W' : World} {P Q : Nat} {c m t : Int} {u v lv : Value} {xs ys l : List Nat} (h : Sb w W P Q c m t u v lv xs ys l) (hb : Below W.heap.size W W') : Sb w W' P Q c m t u v lv xs ys l :=
  ⟨h.tab.below hb, h.b.trans (hb.mono h.b.size), h.p.below hb (Nat.le_refl _), h.q.below hb (Nat.le_refl _), h.x.below hb (Nat.le_refl _), h.y.below hb (Nat.le_refl _), h.li.below hb (Nat.le_refl _)⟩

set_option maxRecDepth 100000 in
set_option maxHeartbeats 8000000 in
theorem sets_go (hlive : LiveC) (c m t i : Int) (sv lv : Value) (w : World) (hT : Tab w) (h0 : Arg w sv) (h2 : Arg w lv) :
    Calls Tryd.prog 6 #[fv c sv m t, .int .i64 i, lv] w fun e w' => e = .returned (.bool true) ∧ Below w.heap.size w w' := by
  obtain ⟨a, len, cap, rfl, hmax, hx⟩ := h0
  obtain ⟨la, llen, lcap, rfl, hlmax, hlx⟩ := h2
  have hB : Below w.heap.size w (w.alloc (fcells c (.slice a len cap) m t)) := (Below.refl _ w).alloc (Nat.le_refl _) _
  have X0 := FBox.new w c (.slice a len cap) m t
  by_cases g0 : 60 < len
  · have g0' : (60 : Int) < (len : Int) := by omega
    go_enter Tryd.func6, Tryd.ntmps6
    go_wp2_with fail
    refine (hlive _ (hT.below hB)).mono ?_
    rintro e w' ⟨rfl, hb⟩
    go_wp2
    go_ret
    exact ⟨rfl, hB.trans (hb.mono hB.size)⟩
  have g0' : ¬ (60 : Int) < (len : Int) := by omega
  by_cases g1 : 20 < llen
  · have g1' : (20 : Int) < (llen : Int) := by omega
    go_enter Tryd.func6, Tryd.ntmps6
    go_wp2_with fail
    refine (hlive _ (hT.below hB)).mono ?_
    rintro e w' ⟨rfl, hb⟩
    go_wp2
    go_ret
    exact ⟨rfl, hB.trans (hb.mono hB.size)⟩
  have g1' : ¬ (20 : Int) < (llen : Int) := by omega
  obtain ⟨xs, hF, rfl⟩ := hx (by omega)
  obtain ⟨l, hL, rfl⟩ := hlx (by omega)
  clear hx hlx
  have hF1 := hF.below hB (Nat.le_refl _)
  have hL1 := hL.below hB (Nat.le_refl _)
  have hT1 := hT.below hB
  by_cases hyes : inTri c i i ∧ checkB c xs m t = true ∧ (l.length : Int) = c + 1
  · obtain ⟨hin, hck, hll⟩ := hyes
    obtain ⟨n, ni, nj, rfl, rfl, hj, hn1, hn6, hij, hjn⟩ := inTri_nat hin
    obtain rfl : ni = nj := by omega
    have HLL : Hid (l.length = n + 1) := by show _ = _; omega
    have HCK : Hid (checkB n xs m t = true) := hck
    obtain ⟨n', hn', _, _, hlen'⟩ := check_len hck
    have HLEN : Hid (xs.length = (n + 1) * (n + 2) / 2) := by
      obtain rfl : n = n' := by omega
      exact hlen'
    clear hll hj hck hn' hlen'
    go_enter Tryd.func6, Tryd.ntmps6
    go_wp2_with fail
    refine (set_c n ni m t _ _ xs l _ hT1 hF1 hL1 HCK.out hjn HLL.out).mono ?_
    rintro e w1 ⟨hcase, hb⟩
    rcases hcase with ⟨hc2, g, cap', rfl, hg, hX⟩ | ⟨hc2, rfl⟩
    · have HC2 : Hid (checkB n (setN n xs ni l) m t = true) := hc2
      have hF2 := hX.fls (set_ok hF.1 hL.1) (by rw [set_length hn6 hjn HLEN.out HLL.out]; omega)
      rw [set_length hn6 hjn HLEN.out HLL.out] at hF2
      have B1 := hB.trans (hb.mono hB.size)
      have XF := X0.below hb (Nat.le_refl _)
      have F1 := hF1.below hb (Nat.le_refl _)
      have L1 := hL1.below hb (Nat.le_refl _)
      have B2 : Below w.heap.size w (w1.alloc (fcells n (.slice (some ⟨g, 0, none⟩) xs.length cap') m t)) := B1.alloc B1.size _
      have hba : Below w1.heap.size w1 (w1.alloc (fcells n (.slice (some ⟨g, 0, none⟩) xs.length cap') m t)) := (Below.refl _ w1).alloc (Nat.le_refl _) _
      have XG := FBox.new w1 n (.slice (some ⟨g, 0, none⟩) xs.length cap') m t
      have XF2 := XF.below hba (Nat.le_refl _)
      have F2 := F1.below hba (Nat.le_refl _)
      have L2 := L1.below hba (Nat.le_refl _)
      have G2 := hF2.below hba (Nat.le_refl _)
      have S : Sb w (w1.alloc (fcells n (.slice (some ⟨g, 0, none⟩) xs.length cap') m t)) w.heap.size w1.heap.size n m t (.slice a xs.length cap) (.slice (some ⟨g, 0, none⟩) xs.length cap') (.slice la l.length lcap) xs (setN n xs ni l) l := ⟨hT.below B2, B2, XF2, XG, F2, G2, L2⟩
      clear hb hX hF2 XF F1 L1 B1 hba hc2 XF2 XG F2 G2 L2 B2 X0 hF1 hL1 hT1 hg hij hT hB
      have x0 := S.p.c0
      have x1 := S.p.c1
      have x2 := S.p.c2
      have x3 := S.p.c3
      go_wp2_with fail
      refine (check_c n m t _ xs _ S.tab S.x).mono ?_
      rw [HCK.out]
      rintro e w2 ⟨rfl, hb⟩
      replace S := S.below hb
      clear hb x0 x1 x2 x3
      generalize w1.heap.size = Q at *
      generalize hP : w.heap.size = P at *
      have HPP : Hid (w.heap.size = P) := hP
      clear hP
      have y0 := S.q.c0
      have y1 := S.q.c1
      have y2 := S.q.c2
      have y3 := S.q.c3
      go_wp2_with fail
      refine (check_c n m t _ (setN n xs ni l) _ S.tab S.y).mono ?_
      rw [HC2.out]
      rintro e w3 ⟨rfl, hb⟩
      replace S := S.below hb
      clear hb y0 y1 y2 y3
      have x0 := S.p.c0
      have x2 := S.p.c2
      have x3 := S.p.c3
      have y0 := S.q.c0
      have y2 := S.q.c2
      have y3 := S.q.c3
      have hle : ((l.length : Int) != (n : Int) + 1) = false := by have := HLL.out; simp; omega
      go_wp2_with fail
      clear x0 x2 x3 y0 y2 y3 hle hF hL hmax hlmax
      go_loopw [9] (fun r wr => ∃ row : Nat, row ≤ n + 1 ∧ r = .int .i64 (row : Int) ∧ Sb w wr P Q n m t (.slice a xs.length cap) (.slice (some ⟨g, 0, none⟩) xs.length cap') (.slice la l.length lcap) xs (setN n xs ni l) l) (fun r _ => n + 1 - (intOf r).toNat)
      case atStart => exact ⟨0, by omega, by simp, S⟩
      case round =>
        clear S
        obtain ⟨row, hrow, rfl, S⟩ := hrel
        have x0 := S.p.c0
        by_cases hlt : row ≤ n
        · go_wp2_with fail
          clear x0
          go_loopw [10, 11] (fun c _ wr => ∃ col : Nat, col ≤ n + 1 ∧ c = .int .i64 (col : Int) ∧ Sb w wr P Q n m t (.slice a xs.length cap) (.slice (some ⟨g, 0, none⟩) xs.length cap') (.slice la l.length lcap) xs (setN n xs ni l) l) (fun c _ _ => n + 1 - (intOf c).toNat)
          case atStart => exact ⟨0, by omega, by simp, S⟩
          case round =>
            clear S
            obtain ⟨col, hcol, rfl, S⟩ := hrel
            have x0 := S.p.c0
            by_cases hlc : col ≤ n
            · have x1 := S.p.c1
              have x2 := S.p.c2
              have x3 := S.p.c3
              have hgs := get_set hjn HCK.out HC2.out HLL.out row col hlc
              by_cases hr : row = ni ∧ ni ≤ col
              · obtain ⟨rfl, hrc⟩ := hr
                rw [if_pos ⟨rfl, hrc⟩] at hgs
                obtain ⟨G, HGX⟩ : ∃ G, Hid (l[col]?.getD 0 = G) := ⟨_, rfl⟩
                have HG : Hid (getN n (setN n xs row l) m t row col = G) := by show _ = _; rw [hgs, HGX.out]
                have hG : G < 18446744073709551616 := by rw [← HGX.out]; exact okF_getD S.li.1 col
                obtain ⟨F, HF⟩ : ∃ F, Hid (getN n xs m t row col = F) := ⟨_, rfl⟩
                have hcl : col < l.length := by rw [HLL.out]; omega
                clear hgs
                go_wp2_with fail
                refine (get_c n m t row col _ xs _ S.tab S.x).mono ?_
                rw [HF.out]
                rintro e w4 ⟨rfl, hb⟩
                replace S := S.below hb
                clear hb x0 x1 x2 x3
                have y0 := S.q.c0
                have y1 := S.q.c1
                have y2 := S.q.c2
                have y3 := S.q.c3
                obtain ⟨b, off, cap1, e, hb, hc', hcs⟩ := S.li.cell (by omega)
                cases e
                have hck := hcs col hcl
                rw [HGX.out] at hck
                have hcl' : (col : Int) < (l.length : Int) := by omega
                clear hcs
                go_wp2_with fail
                refine (get_c n m t row col _ (setN n xs row l) _ S.tab S.y).mono ?_
                rw [HG.out]
                rintro e w5 ⟨rfl, hb⟩
                replace S := S.below hb
                clear hb y0 y1 y2 y3
                go_wp2_with fail
                refine (same_c G G hG hG _).mono ?_
                rw [sameB_refl]
                rintro e w6 ⟨rfl, rfl⟩
                go_wp2_with fail
                go_roundw
                case rel => exact ⟨col + 1, by omega, by go_num, S⟩
                case measure => simp [intOf]; omega
              · rw [if_neg hr] at hgs
                obtain ⟨G, HF⟩ : ∃ G, Hid (getN n xs m t row col = G) := ⟨_, rfl⟩
                have HG : Hid (getN n (setN n xs ni l) m t row col = G) := by show _ = _; rw [hgs, HF.out]
                have hG : G < 18446744073709551616 := by
                  rw [← HF.out]; unfold getN; split
                  · exact okF_getD S.x.1 _
                  · decide
                clear hgs
                go_wp2_with fail
                refine (get_c n m t row col _ xs _ S.tab S.x).mono ?_
                rw [HF.out]
                rintro e w4 ⟨rfl, hb⟩
                replace S := S.below hb
                clear hb x0 x1 x2 x3
                have y0 := S.q.c0
                have y1 := S.q.c1
                have y2 := S.q.c2
                have y3 := S.q.c3
                by_cases hr1 : row = ni
                · have hr2 : ¬ (ni : Int) ≤ (col : Int) := fun h => hr ⟨hr1, by omega⟩
                  subst hr1
                  clear hr
                  go_wp2_with fail
                  refine (get_c n m t row col _ (setN n xs row l) _ S.tab S.y).mono ?_
                  rw [HG.out]
                  rintro e w5 ⟨rfl, hb⟩
                  replace S := S.below hb
                  clear hb y0 y1 y2 y3
                  go_wp2_with fail
                  refine (same_c G G hG hG _).mono ?_
                  rw [sameB_refl]
                  rintro e w6 ⟨rfl, rfl⟩
                  go_wp2_with fail
                  go_roundw
                  case rel => exact ⟨col + 1, by omega, by go_num, S⟩
                  case measure => simp [intOf]; omega
                · have hr2 : ((row : Int) == (ni : Int)) = false := by simp; omega
                  clear hr hr1
                  go_wp2_with fail
                  refine (get_c n m t row col _ (setN n xs ni l) _ S.tab S.y).mono ?_
                  rw [HG.out]
                  rintro e w5 ⟨rfl, hb⟩
                  replace S := S.below hb
                  clear hb y0 y1 y2 y3
                  go_wp2_with fail
                  refine (same_c G G hG hG _).mono ?_
                  rw [sameB_refl]
                  rintro e w6 ⟨rfl, rfl⟩
                  go_wp2_with fail
                  go_roundw
                  case rel => exact ⟨col + 1, by omega, by go_num, S⟩
                  case measure => simp [intOf]; omega
            · obtain rfl : col = n + 1 := by omega
              go_wp2_with fail
              go_roundw
              case rel => exact ⟨row + 1, by omega, by go_num, S⟩
              case measure => simp [intOf]; omega
        · obtain rfl : row = n + 1 := by omega
          go_wp2_with fail
          refine (hlive _ S.tab).mono ?_
          rintro e w' ⟨rfl, hb⟩
          replace S := S.below hb
          go_wp2
          go_ret
          exact ⟨rfl, S.b⟩
    · clear hc2 HLL HCK HLEN
      have B1 := hB.trans (hb.mono hB.size)
      have B2 : Below w.heap.size w (w1.alloc (fcells 0 (.slice none 0 0) 0 0)) := B1.alloc B1.size _
      clear hb
      go_wp2_with fail
      refine (fsame_c 0 0 0 _ _ [] [] _ (Fls.nil _) (Fls.nil _)).mono ?_
      rintro e w2 ⟨rfl, hb2⟩
      have B3 := B2.trans (hb2.mono B2.size)
      have ha : allSame [] [] = true := rfl
      rw [ha]
      go_wp2_with fail
      refine (hlive _ (hT.below B3)).mono ?_
      rintro e w3 ⟨rfl, hb3⟩
      go_wp2
      go_ret
      exact ⟨rfl, B3.trans (hb3.mono B3.size)⟩
  · go_enter Tryd.func6, Tryd.ntmps6
    go_wp2_with fail
    refine (set_no c m t i _ _ xs l _ hT1 hF1 hL1 hyes).mono ?_
    rintro e w1 ⟨rfl, hb⟩
    have B1 := hB.trans (hb.mono hB.size)
    have B2 : Below w.heap.size w (w1.alloc (fcells 0 (.slice none 0 0) 0 0)) := B1.alloc B1.size _
    clear hb
    go_wp2_with fail
    refine (fsame_c 0 0 0 _ _ [] [] _ (Fls.nil _) (Fls.nil _)).mono ?_
    rintro e w2 ⟨rfl, hb2⟩
    have B3 := B2.trans (hb2.mono B2.size)
    have ha : allSame [] [] = true := rfl
    rw [ha]
    go_wp2_with fail
    refine (hlive _ (hT.below B3)).mono ?_
    rintro e w3 ⟨rfl, hb3⟩
    go_wp2
    go_ret
    exact ⟨rfl, B3.trans (hb3.mono B3.size)⟩
end Go.Proofs.YtaglfndhgdolfaaDoor
