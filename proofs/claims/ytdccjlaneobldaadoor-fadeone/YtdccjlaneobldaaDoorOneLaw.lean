/- levellinglaw12.FadeOne: the walk. -/
import Derived.Test.YtdccjlaneobldaaDoorAll
import Derived.Test.YtdccjlaneobldaaDoorRefSame
import Derived.Test.YtdccjlaneobldaaDoorArgs
namespace Go.Proofs.YtdccjlaneobldaaDoor
open Go.RowKit Go.Shelf Rnd

theorem may_one : mayB 4607182418800017408 = true := by decide
theorem fade_one {xs : List Nat} (ho : okF xs) (h : xs.all leH = true) : fadeL 4607182418800017408 xs = xs := by
  unfold fadeL
  have : ∀ x ∈ xs, fadeW 4607182418800017408 x = x := fun x hx => fadeW_one (ho x hx) (leH_fin (List.all_eq_true.1 h x hx))
  rw [List.map_congr_left this]
  simp

set_option maxRecDepth 100000 in
set_option maxHeartbeats 8000000 in
theorem one_go (hlive : LiveC) (c m t : Int) (sv : Value) (w : World) (hT : Tab w) (h0 : Arg w sv) :
    Calls Tryd.prog 7 #[fv c sv m t] w fun e w' => e = .returned (.bool true) ∧ Below w.heap.size w w' := by
  obtain ⟨a, len, cap, rfl, hmax, hx⟩ := h0
  have hB : Below w.heap.size w (w.alloc (fcells c (.slice a len cap) m t)) := (Below.refl _ w).alloc (Nat.le_refl _) _
  have X0 := FBox.new w c (.slice a len cap) m t
  by_cases g0 : 60 < len
  · have g0' : (60 : Int) < (len : Int) := by omega
    go_enter Tryd.func7, Tryd.ntmps7
    go_wp2_with fail
    refine (hlive _ (hT.below hB)).mono ?_
    rintro e w' ⟨rfl, hb⟩
    go_wp2
    go_ret
    exact ⟨rfl, hB.trans (hb.mono hB.size)⟩
  have g0' : ¬ (60 : Int) < (len : Int) := by omega
  obtain ⟨xs, hF, rfl⟩ := hx (by omega)
  clear hx
  have hF1 := hF.below hB (Nat.le_refl _)
  obtain ⟨ck, HCK⟩ : ∃ ck, Hid (checkB c xs m t = ck) := ⟨_, rfl⟩
  go_enter Tryd.func7, Tryd.ntmps7
  go_wp2_with fail
  refine (check_c c m t _ xs _ (hT.below hB) hF1).mono ?_
  rw [HCK.out]
  rintro e w1 ⟨rfl, hb⟩
  have B := hB.trans (hb.mono hB.size)
  have X := X0.below hb (Nat.le_refl _)
  have F := hF1.below hb (Nat.le_refl _)
  clear hB X0 hF1 hb
  cases ck with
  | false =>
    go_wp2_with fail
    refine (hlive _ (hT.below B)).mono ?_
    rintro e w' ⟨rfl, hb⟩
    go_wp2
    go_ret
    exact ⟨rfl, B.trans (hb.mono B.size)⟩
  | true =>
    have htt := check_turns HCK.out
    have x0 := X.c0
    have x1 := X.c1
    have x2 := X.c2
    have x3 := X.c3
    have hO := factor_all c m t 4607182418800017408 _ xs w1 (hT.below B) F (by decide)
    unfold FadeC at hO
    by_cases hfull : 4096 ≤ t
    · have he : oE c xs m t 4607182418800017408 1 = 6 := oE_full HCK.out (by decide) may_one (by omega)
      obtain ⟨e1, e2, e3, e4⟩ := o_no (show oE c xs m t 4607182418800017408 1 ≠ 0 by rw [he]; decide)
      rw [e1, e2, e3, e4, he] at hO
      clear e1 e2 e3 e4 he
      go_wp2_with fail
      refine hO.mono ?_
      rintro e w2 ⟨⟨a2, l2, k2, rfl, hf⟩, hb⟩
      have hba : Below w2.heap.size w2 (w2.alloc (fcells 0 (.slice a2 l2 k2) 0 0)) := (Below.refl _ w2).alloc (Nat.le_refl _) _
      replace B := (B.trans (hb.mono B.size))
      replace B := B.trans (hba.mono B.size)
      replace X := (X.below hb (Nat.le_refl _)).below hba (Nat.le_refl _)
      clear x0 x1 x2 x3 hb hba hf hO
      have x3 := X.c3
      go_wp2_with fail
      refine (hlive _ (hT.below B)).mono ?_
      rintro e w' ⟨rfl, hb⟩
      go_wp2
      go_ret
      exact ⟨rfl, B.trans (hb.mono B.size)⟩
    · have he : oE c xs m t 4607182418800017408 1 = 0 := oE_yes HCK.out (by decide) may_one (by omega)
      obtain ⟨e1, e2, e3, e4⟩ := o_yes he
      have e5 : fadeN 4607182418800017408 (1 : Int).toNat xs = xs := fade_one hF.1 (check_all HCK.out)
      rw [e1, e2, e3, e4, he, e5] at hO
      clear e1 e2 e3 e4 he e5
      go_wp2_with fail
      refine hO.mono ?_
      rintro e w2 ⟨⟨a2, l2, k2, rfl, hf⟩, hb⟩
      have hba : Below w2.heap.size w2 (w2.alloc (fcells c (.slice a2 l2 k2) m (t + 1))) := (Below.refl _ w2).alloc (Nat.le_refl _) _
      have G := FBox.new w2 c (.slice a2 l2 k2) m (t + 1)
      replace B := (B.trans (hb.mono B.size))
      replace B := B.trans (hba.mono B.size)
      replace X := (X.below hb (Nat.le_refl _)).below hba (Nat.le_refl _)
      replace F := (F.below hb (Nat.le_refl _)).below hba (Nat.le_refl _)
      replace hf := hf.below hba (Nat.le_refl _)
      clear x0 x1 x2 x3 hb hba hO
      have x1 := X.c1
      have x3 := X.c3
      have y1 := G.c1
      have y3 := G.c3
      have hA := all_c _ _ xs xs _ hf F
      rw [allSame_refl] at hA
      go_wp2_with fail
      refine hA.mono ?_
      rintro e w3 ⟨rfl, hb⟩
      replace B := (B.trans (hb.mono B.size))
      replace X := X.below hb (Nat.le_refl _)
      replace G := G.below hb (Nat.le_refl _)
      clear x1 x3 y1 y3 hb hA hf F
      have x3 := X.c3
      have y3 := G.c3
      have h3 : IntKind.i64.wrap (t + 1) = t + 1 := by rw [IntKind.wrap_i64]; omega
      go_wp2_with fail
      refine (hlive _ (hT.below B)).mono ?_
      rintro e w' ⟨rfl, hb⟩
      go_wp2
      go_ret
      exact ⟨rfl, B.trans (hb.mono B.size)⟩
end Go.Proofs.YtdccjlaneobldaaDoor
