/- levellinglaw07.TriLines: the walk. -/
import Derived.Deep.RegionWith
import Derived.Deep.CutRange
import Derived.Test.YtaglfndhgdolfaaDoorRefSame
import Derived.Test.YtaglfndhgdolfaaDoorPlaces
import Derived.Test.YtaglfndhgdolfaaDoorLinesMath
import Derived.Test.YtaglfndhgdolfaaDoorArgs
namespace Go.Proofs.YtaglfndhgdolfaaDoor
open Go.RowKit Go.Shelf

theorem RowF.rowX {W : World} {g : Nat} {xs : List Nat} (h : RowF W g xs) : RowX W g xs.length xs := ⟨[], by rw [List.append_nil]; exact h, by simp⟩

/-- What is known on the way: of f's box, of g's and of its row. -/
structure Sl (w W : World) (P Q g cap len : Nat) (c m t : Int) (u : Value) (ys : List Nat) : Prop where
  b : Below w.heap.size w W
  p : FBox W P c u m t
  q : FBox W Q c (.slice (some ⟨g, 0, none⟩) len cap) 0 0
  y : RowX W g cap ys
theorem Sl.below {w W W' : World} {P Q g cap len : Nat} {c m t : Int} {u : Value} {ys : List Nat} (h : Sl w W P Q g cap len c m t u ys) (hb : Below W.heap.size W W') : Sl w W' P Q g cap len c m t u ys :=
  ⟨h.b.trans (hb.mono h.b.size), h.p.below hb (Nat.le_refl _), h.q.below hb (Nat.le_refl _), h.y.below hb (Nat.le_refl _)⟩
theorem Sl.put {w W : World} {P Q g cap len g' cap' : Nat} {c m t : Int} {u : Value} {ys ys' : List Nat} (h : Sl w W P Q g cap len c m t u ys) (hP : Q ≠ P) (hw : w.heap.size ≤ Q) (hy : RowX W g' cap' ys') (hg : Q ≠ g') :
    Sl w (putF W Q c (.slice (some ⟨g', 0, none⟩) len cap') 0 0) P Q g' cap' len c m t u ys' :=
  ⟨putF_below h.b hw _ _ _ _, (((h.p.other ⟨Q, 0, none⟩ _ hP).other ⟨Q, 1, none⟩ _ hP).other ⟨Q, 2, none⟩ _ hP).other ⟨Q, 3, none⟩ _ hP, h.q.put _ _ _ _, hy.putF Q hg _ _ _ _⟩

theorem Sl.alloc {w W : World} {P Q g cap len : Nat} {c m t : Int} {u : Value} {ys : List Nat} (h : Sl w W P Q g cap len c m t u ys) (o : Obj) : Sl w (W.alloc o) P Q g cap len c m t u ys := h.below ((Below.refl _ W).alloc (Nat.le_refl _) o)
theorem Sl.other {w W : World} {P Q g cap len X : Nat} {c m t : Int} {u : Value} {ys : List Nat} (h : Sl w W P Q g cap len c m t u ys) (hP : X ≠ P) (hQ : X ≠ Q) (hg : X ≠ g) (hw : w.heap.size ≤ X) (c' : Int) (v' : Value) (r' t' : Int) : Sl w (putF W X c' v' r' t') P Q g cap len c m t u ys :=
  ⟨putF_below h.b hw _ _ _ _, (((h.p.other ⟨X, 0, none⟩ _ hP).other ⟨X, 1, none⟩ _ hP).other ⟨X, 2, none⟩ _ hP).other ⟨X, 3, none⟩ _ hP, (((h.q.other ⟨X, 0, none⟩ _ hQ).other ⟨X, 1, none⟩ _ hQ).other ⟨X, 2, none⟩ _ hQ).other ⟨X, 3, none⟩ _ hQ, h.y.putF X hg _ _ _ _⟩

set_option maxRecDepth 100000 in
set_option maxHeartbeats 40000000 in
theorem lines_go (hlive : LiveC) (c m t half : Int) (sv : Value) (w : World) (hT : Tab w) (h0 : Arg w sv) :
    Calls Tryd.prog 7 #[fv c sv m t, .int .i64 half] w fun e w' => e = .returned (.bool true) ∧ Below w.heap.size w w' := by
  obtain ⟨a, len, cap, rfl, hmax, hx⟩ := h0
  have hB : Below w.heap.size w (w.alloc (fcells c (.slice a len cap) m t)) := (Below.refl _ w).alloc (Nat.le_refl _) _
  have X0 := FBox.new w c (.slice a len cap) m t
  by_cases g0 : 60 < len
  · have g0' : (60 : Int) < (len : Int) := by omega
    go_enter Tryd.func7, Tryd.ntmps7
    go_wp2_with fail
    refine (hlive _ (hT.below hB)).mono ?_
    rintro e w' ⟨rfl, hb⟩
    go_wp2
    go_ret
    exact ⟨rfl, hB.trans (hb.mono hB.size)⟩
  have g0' : ¬ (60 : Int) < (len : Int) := by omega
  obtain ⟨xs, hF, rfl⟩ := hx (by omega)
  clear hx
  have hF1 := hF.below hB (Nat.le_refl _)
  have hT1 := hT.below hB
  cases hck : checkB c xs m t with
  | false =>
    go_enter Tryd.func7, Tryd.ntmps7
    go_wp2_with fail
    refine (check_c c m t _ xs _ hT1 hF1).mono ?_
    rw [hck]
    rintro e w1 ⟨rfl, hb⟩
    have B1 := hB.trans (hb.mono hB.size)
    clear hb
    go_wp2_with fail
    refine (hlive _ (hT.below B1)).mono ?_
    rintro e w' ⟨rfl, hb⟩
    go_wp2
    go_ret
    exact ⟨rfl, B1.trans (hb.mono B1.size)⟩
  | true =>
    obtain ⟨n, rfl, hn1, hn6, hlen⟩ := check_len hck
    have HCK : Hid (checkB n xs m t = true) := hck
    have HLEN : Hid (xs.length = (n + 1) * (n + 2) / 2) := hlen
    clear hck hlen
    go_enter Tryd.func7, Tryd.ntmps7
    go_wp2_with fail
    refine (check_c n m t _ xs _ hT1 hF1).mono ?_
    rw [HCK.out]
    rintro e w1 ⟨rfl, hb⟩
    have B1 := hB.trans (hb.mono hB.size)
    have X1 := X0.below hb (Nat.le_refl _)
    have x0 := X1.c0
    clear hb hB X0 hF1 hT1
    go_wp2_with fail
    refine (new_yes n _ hn1 hn6).mono ?_
    rw [← HLEN.out]
    rintro e w2 ⟨⟨g, rfl, hg, hR⟩, hb⟩
    have B2 := B1.trans (hb.mono B1.size)
    have X2 := X1.below hb (Nat.le_refl _)
    have hPlt := X2.lt
    have hba : Below w2.heap.size w2 (w2.alloc (fcells n (.slice (some ⟨g, 0, none⟩) xs.length xs.length) 0 0)) := (Below.refl _ w2).alloc (Nat.le_refl _) _
    have hgl : g < w2.heap.size := (Array.getElem?_eq_some_iff.1 hR).1
    have hRX : RowX w2 g xs.length (List.replicate xs.length 0) := by have := hR.rowX; rwa [List.length_replicate] at this
    have S : Sl w (w2.alloc (fcells n (.slice (some ⟨g, 0, none⟩) xs.length xs.length) 0 0)) w.heap.size w2.heap.size g xs.length xs.length n m t (.slice a xs.length cap) (List.replicate xs.length 0) :=
      ⟨B2.trans (hba.mono B2.size), X2.below hba (Nat.le_refl _), FBox.new _ _ _ _ _, hRX.below hba (Nat.le_refl _)⟩
    have hQ1 : w.heap.size ≤ w2.heap.size := B2.size
    have hQ2 : w2.heap.size ≠ w.heap.size := by omega
    clear hb x0 X1 X2 hba B1 B2 hR hg hRX
    go_wp2_with fail
    generalize w2.heap.size = Q at *
    obtain ⟨P, HPP⟩ : ∃ P, Hid (w.heap.size = P) := ⟨_, rfl⟩
    rw [HPP.out] at S hQ1 hQ2 ⊢
    have HK0 := Kept.start n xs half
    go_loopw [7, 8] (fun k _ wr => ∃ (kk g cap' : Nat) (ys : List Nat), kk ≤ n + 1 ∧ k = .int .i64 (kk : Int) ∧ Hid (Kept n xs half kk ys) ∧ Hid (okF ys) ∧ Sl w wr P Q g cap' xs.length n m t (.slice a xs.length cap) ys) (fun k _ _ => n + 1 - (intOf k).toNat)
    case atStart => exact ⟨0, g, xs.length, _, by omega, by simp, HK0, by intro x hx; have := List.eq_of_mem_replicate hx; omega, S⟩
    case round =>
      clear S HK0 hgl
      obtain ⟨k, g, cap', ys, hk, rfl, HK, HO, S⟩ := hrel
      have x0 := S.p.c0
      by_cases hlt : k ≤ n
      · obtain ⟨I, HI⟩ : ∃ I, Hid (sig n half k = I) := ⟨_, rfl⟩
        have hI : I ≤ n := by rw [← HI.out]; exact sig_le half hlt
        have hcase : (1 ≤ half ∧ half ≤ (n : Int) ∧ ((k : Int) + half) % ((n : Int) + 1) = (I : Int)) ∨ ((¬ 1 ≤ half ∨ (1 ≤ half ∧ ¬ half ≤ (n : Int))) ∧ Hid (I = k)) := by
          have h := HI.out
          unfold sig at h
          by_cases c : 1 ≤ half ∧ half ≤ (n : Int)
          · rw [if_pos c] at h
            refine .inl ⟨c.1, c.2, ?_⟩
            rw [← h]
            obtain ⟨q, rfl⟩ : ∃ q : Nat, half = (q : Int) := ⟨half.toNat, by omega⟩
            simp only [Int.toNat_natCast]
            push_cast
            rfl
          · rw [if_neg c] at h
            exact .inr ⟨by omega, h.symm⟩
        obtain ⟨B, HB⟩ : ∃ B : Bool, Hid (B = (decide (1 ≤ half) && decide (half ≤ (n : Int)))) := ⟨_, rfl⟩
        go_upto_region 10 with fail
        go_cut [43] from 29 to 62 (fun s43 wx => s43 = .bool B ∧ wx = wr)
        case first =>
          rcases hcase with ⟨h1, h2, h3⟩ | ⟨h1 | ⟨h1, h2⟩, h3⟩
          · clear h3
            go_wp2_with fail
            go_meet
            exact ⟨by rw [HB.out]; simp [h1, h2], rfl⟩
          · go_wp2_with fail
            go_meet
            exact ⟨by rw [HB.out, decide_eq_false (show ¬ 1 ≤ half by omega)]; rfl, rfl⟩
          · go_wp2_with fail
            go_meet
            exact ⟨by rw [HB.out, decide_eq_false (show ¬ half ≤ (n : Int) by omega), Bool.and_false], rfl⟩
        case rest =>
        obtain ⟨rfl, rfl⟩ := hcut
        go_upto_if 43 with fail
        go_cut [8] from 29 to 62 (fun s8 wx => s8 = .int .i64 (I : Int) ∧ Sl w wx P Q g cap' xs.length n m t (.slice a xs.length cap) ys)
        case first =>
          rcases hcase with ⟨h1, h2, h3⟩ | ⟨h1, h3⟩
          · obtain rfl : B = true := by rw [HB.out]; simp [h1, h2]
            go_wp2_with fail
            go_meet
            exact ⟨by rw [h3], S⟩
          · obtain rfl : B = false := by
              rw [HB.out]
              rcases h1 with h1 | ⟨h1, h2⟩
              · rw [decide_eq_false (show ¬ 1 ≤ half by omega)]; rfl
              · rw [decide_eq_false (show ¬ half ≤ (n : Int) by omega), Bool.and_false]
            go_wp2_with fail
            go_meet
            exact ⟨by rw [h3.out], S⟩
        case rest =>
          clear S x0 hcase HB
          obtain ⟨rfl, S⟩ := hcut
          obtain ⟨Y, HY⟩ : ∃ Y, Hid (setN n ys I (lineN n xs I) = Y) := ⟨_, rfl⟩
          have HKY : Hid (Kept n xs half (k + 1) Y) := by show Kept _ _ _ _ _; rw [← HY.out, ← HI.out]; exact HK.out.step hn6 hlt HLEN.out
          have HOY : Hid (okF Y) := by show okF _; rw [← HY.out]; exact set_ok HO.out (line_ok hF.1)
          have HLY : Hid (ys.length = xs.length) := HK.out.1
          have x0 := S.p.c0
          have x1 := S.p.c1
          have x2 := S.p.c2
          have x3 := S.p.c3
          have y0 := S.q.c0
          have y1 := S.q.c1
          have y2 := S.q.c2
          have y3 := S.q.c3
          have lP := S.p.lt
          have lQ := S.q.lt
          go_wp2_with fail
          go_cut [9, 10] from 29 to 62 (fun s9 s10 wx => ∃ X g' c', s9 = .pointer (some ⟨X, 0, none⟩) ∧ s10 = .bool true ∧ FBox wx X n (.slice (some ⟨g', 0, none⟩) xs.length c') 0 0 ∧ RowX wx g' c' Y ∧ Q ≠ g' ∧ Sl w wx P Q g cap' xs.length n m t (.slice a xs.length cap) ys)
          case first =>
            have kL : ∀ V, Sl w V P Q g cap' xs.length n m t (.slice a xs.length cap) ys → Calls Tryd.prog 25 #[fv n (.slice a xs.length cap) m t, .int .i64 (I : Int)] V fun e w' => (∃ l, e = .returned (.slice (some ⟨l, 0, none⟩) (n + 1) (n + 1)) ∧ Fls w' (.slice (some ⟨l, 0, none⟩) (n + 1) (n + 1)) (lineN n xs I)) ∧ Below V.heap.size V w' := by
              intro V SV
              refine (line_yes n I m t _ xs V (hT.below SV.b) (hF.below SV.b (Nat.le_refl _)) HCK.out hI).mono ?_
              rintro e w' ⟨⟨l, he, _, hR⟩, hb⟩
              have h1 := hR.fls (line_ok hF.1) (by rw [line_length hn6 hI HLEN.out]; omega)
              rw [line_length hn6 hI HLEN.out] at h1
              exact ⟨⟨l, he, h1⟩, hb⟩
            have kS : ∀ V l, Sl w V P Q g cap' xs.length n m t (.slice a xs.length cap) ys → Fls V (.slice (some ⟨l, 0, none⟩) (n + 1) (n + 1)) (lineN n xs I) → Calls Tryd.prog 19 #[fv n (.slice (some ⟨g, 0, none⟩) xs.length cap') 0 0, .int .i64 (I : Int), (.slice (some ⟨l, 0, none⟩) (n + 1) (n + 1))] V fun e w' => (∃ g' c', e = .returned (.tuple #[fv n (.slice (some ⟨g', 0, none⟩) xs.length c') 0 0, .bool true]) ∧ V.heap.size ≤ g' ∧ RowX w' g' c' Y) ∧ Below V.heap.size V w' := by
              intro V l SV LV
              have hy := SV.y.fls HO.out (by rw [HLY.out]; omega)
              rw [HLY.out] at hy
              have h := set_c n I 0 0 _ _ ys (lineN n xs I) V (hT.below SV.b) hy LV (HK.out.check HCK.out) hI (line_length hn6 hI HLEN.out)
              rw [HY.out, HLY.out, HKY.out.check HCK.out] at h
              refine h.mono ?_
              rintro e w' ⟨⟨_, h'⟩ | ⟨h', _⟩, hb⟩
              · exact ⟨h', hb⟩
              · cases h'
            have bD : Below wc.heap.size wc wc.drew := (Below.refl _ _).drew
            have bZ : Below wc.heap.size wc (wc.alloc (fcells 0 (.slice none 0 0) 0 0)).drew := ((Below.refl _ _).alloc (Nat.le_refl _) _).drew
            have S1 := S.below bD
            have S2 := S.below bZ
            have xz : FBox (wc.alloc (fcells 0 (.slice none 0 0) 0 0)).drew wc.heap.size 0 (.slice none 0 0) 0 0 := (FBox.new wc _ _ _ _).below ((Below.refl _ _).drew) (Nat.le_refl _)
            have kL1 := kL _ S1
            have kL2 := kL _ S2
            clear HKY HOY HLY HK HO
            go_region_with (first | (go_at_call 25; with_reducible refine kL1.mono ?_; rintro e w2 ⟨⟨l, rfl, L2⟩, hb2⟩; have T2 := S1.below hb2; have q0 := T2.q.c0; have q1 := T2.q.c1; have q2 := T2.q.c2; have q3 := T2.q.c3; have lq := T2.q.lt) | (go_at_call 25; with_reducible refine kL2.mono ?_; rintro e w2 ⟨⟨l, rfl, L2⟩, hb2⟩; have T2 := S2.below hb2; have xq := xz.below hb2 (Nat.le_refl _); have q0 := T2.q.c0; have q1 := T2.q.c1; have q2 := T2.q.c2; have q3 := T2.q.c3; have lq := T2.q.lt) | (go_at_call 19; with_reducible refine (kS w2 l T2 L2).mono ?_; rintro e w3 ⟨⟨g', c', rfl, hg', hX⟩, hb3⟩; have T3 := T2.below hb3; (first | (have xr := xq.below hb3 (Nat.le_refl _); have r0 := xr.c0; have r1 := xr.c1; have r2 := xr.c2; have r3 := xr.c3; have z0 := xr.fz 0; have z1 := xr.fz 1; have z2 := xr.fz 2; have z3 := xr.fz 3) | skip)) | (go_at_call 19; with_reducible refine (kS (w2.alloc (fcells 0 (.slice none 0 0) 0 0)) l (T2.alloc _) (L2.below ((Below.refl _ w2).alloc (Nat.le_refl _) _) (Nat.le_refl _))).mono ?_; rintro e w3 ⟨⟨g', c', rfl, hg', hX⟩, hb3⟩; have T3 := (T2.alloc _).below hb3; have xr := (FBox.new w2 0 (.slice none 0 0) 0 0).below hb3 (Nat.le_refl _); have r0 := xr.c0; have r1 := xr.c1; have r2 := xr.c2; have r3 := xr.c3; have z0 := xr.fz 0; have z1 := xr.fz 1; have z2 := xr.fz 2; have z3 := xr.fz 3))
            all_goals
              go_wp2_with fail
              go_meet
              have hgl := S.y.lt
              have hb1 := S.b.size
              have hb4 := T2.b.size
              have lg2 := T2.y.lt
              have hsz := World.size_alloc w2 (fcells 0 (.slice none 0 0) 0 0)
              refine ⟨_, g', c', rfl, rfl, ?_, ?_, ?_, ?_⟩
              · first
                  | with_reducible exact FBox.new _ _ _ _ _
                  | exact xr.put _ _ _ _
              · first
                  | with_reducible exact hX.below ((Below.refl _ w3).alloc (Nat.le_refl _) _) (Nat.le_refl _)
                  | (refine hX.putF _ ?_ _ _ _ _; first | omega | (have lx := xq.lt; omega))
              · omega
              · first
                  | with_reducible exact T3.alloc _
                  | (refine T3.other ?_ ?_ ?_ ?_ _ _ _ _ <;> first | omega | (have lx := xq.lt; omega))
          case rest =>
            clear S x0 x1 x2 x3 y0 y1 y2 y3 lP lQ
            obtain ⟨X, g', c', rfl, rfl, XB, RY, hQg, S⟩ := hcut
            have n0 := XB.c0
            have n1 := XB.c1
            have n2 := XB.c2
            have n3 := XB.c3
            have y0 := S.q.c0
            have y1 := S.q.c1
            have y2 := S.q.c2
            have y3 := S.q.c3
            have z0 := S.q.fz 0
            have z1 := S.q.fz 1
            have z2 := S.q.fz 2
            have z3 := S.q.fz 3
            have hw : w.heap.size ≤ Q := by rw [HPP.out]; exact hQ1
            have SP := S.put hQ2 hw RY hQg
            unfold putF at SP
            go_wp2_with fail
            go_roundw
            case rel => exact ⟨k + 1, g', c', Y, by omega, by go_num, HKY, HOY, SP⟩
            case measure => simp [intOf]; omega
      · obtain rfl : k = n + 1 := by omega
        obtain rfl : ys = xs := HK.out.done (by rw [HLEN.out, place_total n hn6])
        have x1 := S.p.c1
        have y1 := S.q.c1
        have y2 := S.q.c2
        have y3 := S.q.c3
        go_wp2_with fail
        refine (all_c _ _ ys ys _ (by have h := S.y.fls HO.out (by omega); exact h) (hF.below S.b (Nat.le_refl _))).mono ?_
        rw [allSame_refl]
        rintro e w3 ⟨rfl, hb⟩
        have S3 := S.below hb
        clear x0 x1 y1 y2 y3
        have y2 := S3.q.c2
        have y3 := S3.q.c3
        go_wp2_with fail
        refine (hlive _ (hT.below S3.b)).mono ?_
        rintro e w4 ⟨rfl, hb4⟩
        go_wp2
        go_ret
        exact ⟨rfl, S3.b.trans (hb4.mono S3.b.size)⟩
end Go.Proofs.YtaglfndhgdolfaaDoor
