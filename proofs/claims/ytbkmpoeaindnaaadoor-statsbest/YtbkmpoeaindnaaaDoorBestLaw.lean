/- levellinglaw17.StatsBest: the walk. -/
import Derived.Deep.OwnRows
import Derived.Deep.RegionHeld3
import Derived.Test.YtbkmpoeaindnaaaDoorBMath
import Derived.Test.YtbkmpoeaindnaaaDoorFitLaw
namespace Go.Proofs.YtbkmpoeaindnaaaDoor
open Go.RowKit Go.Shelf Rnd

theorem made_fl (n : Nat) : madeCells #[fl 0] n = ((List.replicate n 0).map fl).toArray := by
  apply Array.ext'
  apply List.ext_getElem?
  intro i
  by_cases hi : i < n
  · have h1 : (madeCells #[fl 0] n)[i]? = some (fl 0) := by simp [madeCells, hi, Nat.mod_one]
    rw [Array.getElem?_toList, h1]
    simp [hi]
  · rw [Array.getElem?_toList, Array.getElem?_eq_none (by rw [size_madeCells]; omega)]
    simp; omega

set_option maxRecDepth 100000 in
set_option maxHeartbeats 8000000 in
theorem best_go (hlive : LiveC) (c m t : Int) (sv lv : Value) (w : World) (hT : Tab w) (h0 : Arg w sv) (h2 : Arg w lv) :
    Calls Tryd.prog 6 #[fv c sv m t, lv] w fun e w' => e = .returned (.bool true) ∧ Below w.heap.size w w' := by
  obtain ⟨a, len, cap, rfl, hmax, hx⟩ := h0
  obtain ⟨la, llen, lcap, rfl, hlmax, hlx⟩ := h2
  have B : Below w.heap.size w (w.alloc (fcells c (.slice a len cap) m t)) := (Below.refl _ w).alloc (Nat.le_refl _) _
  by_cases g0 : 60 < len
  · have g0' : (60 : Int) < (len : Int) := by omega
    go_enter Tryd.func6, Tryd.ntmps6
    go_wp2_with fail
    refine (hlive _ (hT.below B)).mono ?_
    rintro e w' ⟨rfl, hb⟩
    go_wp2
    go_ret
    exact ⟨rfl, B.trans (hb.mono B.size)⟩
  have g0' : ¬ (60 : Int) < (len : Int) := by omega
  by_cases g1 : 20 < llen
  · have g1' : (20 : Int) < (llen : Int) := by omega
    go_enter Tryd.func6, Tryd.ntmps6
    go_wp2_with fail
    refine (hlive _ (hT.below B)).mono ?_
    rintro e w' ⟨rfl, hb⟩
    go_wp2
    go_ret
    exact ⟨rfl, B.trans (hb.mono B.size)⟩
  have g1' : ¬ (20 : Int) < (llen : Int) := by omega
  obtain ⟨xs, hF, rfl⟩ := hx (by omega)
  obtain ⟨ls, hL, rfl⟩ := hlx (by omega)
  clear hx hlx
  have X := FBox.new w c (.slice a xs.length cap) m t
  have kO := of_all c m t _ xs _ (hT.below B) (hF.below B (Nat.le_refl _))
  have kM := fun W (h : Below w.heap.size w W) => miss_all c m t _ _ xs ls W (hT.below h) (hF.below h (Nat.le_refl _)) (hL.below h (Nat.le_refl _))
  unfold OfC at kO
  unfold MisC at kM
  by_cases hE : stE c xs m t = 0
  · by_cases hM : miE c xs m t ls = 0
    · obtain ⟨hck, hr⟩ := stE_zero hE
      have S := st_ok hck hF.1 hr
      obtain ⟨y1, y2, y3, y4, y5, y6⟩ := st_yes hE
      obtain ⟨v1, v2⟩ := miss_ge hF.1 hE hM
      obtain ⟨n, hn, hn1, hn6, hxl⟩ := check_len hck
      clear hxl
      subst hn
      obtain ⟨z1, z2⟩ := miss_zeros hF.1 hE
      have f1 := S.restF
      have f2 := S.totF
      rw [hE, y1, y2, y3, y4, y5] at kO
      rw [hM] at kM
      clear y1 y2 y3 y4 y5 y6 hE hM S
      have kN := fun W zv (h : Below w.heap.size w W) (hz : Fls W zv (List.replicate n 0)) => miss_all n m t _ zv xs (List.replicate n 0) W (hT.below h) (hF.below h (Nat.le_refl _)) hz
      unfold MisC at kN
      rw [z1, z2] at kN
      clear z1 z2 hck hr
      generalize miV n xs m t ls = M at *
      generalize restN n xs m t = R at *
      generalize totN n xs m t = T at *
      generalize varN n xs m t = V at *
      generalize fitN n xs m t = I at *
      generalize m - n = F at *
      have o1 := wge (a := M) (b := R) v2 f1 v1
      have kE := same_c T T (by omega) (by omega)
      rw [sameB_refl] at kE
      have hmk := run_make_row' (P := Tryd.prog) 22 26 (.float .f64 0) 8 Tryd.underlying22 Tryd.infoF rfl .i64 .i64 n (by omega) (by omega)
      rw [made_fl] at hmk
      obtain ⟨Z, hZ⟩ : ∃ Z, Z = ((List.replicate n 0).map fl).toArray := ⟨_, rfl⟩
      rw [← hZ] at hmk
      have HZ : Hid (Z = ((List.replicate n 0).map fl).toArray) := hZ
      clear hZ v1 v2 f1 f2
      go_enter Tryd.func6, Tryd.ntmps6
      go_wp2_with fail
      refine kO.mono ?_
      rintro e w1 ⟨rfl, hb⟩
      replace X := X.step hb (scells F R T V I)
      replace B := bal2 B hb (scells F R T V I) B.size
      have Y := SBox.new w1 F R T V I
      clear hb kO
      have c0 := X.c0
      have c1 := X.c1
      have c2 := X.c2
      have c3 := X.c3
      go_wp2_with fail
      refine (kM _ B).mono ?_
      rintro e w2 ⟨rfl, hb⟩
      replace X := X.below hb (Nat.le_refl _)
      replace B := B.trans (hb.mono B.size)
      replace Y := Y.below hb Y.lt
      clear hb kM c0 c1 c2 c3
      have c0 := X.c0
      have c1 := X.c1
      have c2 := X.c2
      have c3 := X.c3
      have bD : Below w2.heap.size w2 w2.drew := (Below.refl _ w2).drew
      have bZ : Below w2.heap.size w2 (w2.drew.alloc (.cells Z 26)) := bD.alloc (by simp) _
      have mk : ∀ w', Below w2.heap.size w2 w' → (w'.cell? ⟨w.heap.size, 0, none⟩ = some (.int .i64 (n : Int)) ∧ w'.cell? ⟨w.heap.size, 1, none⟩ = some (.slice a xs.length cap) ∧ w'.cell? ⟨w.heap.size, 2, none⟩ = some (.int .i64 m) ∧ w'.cell? ⟨w.heap.size, 3, none⟩ = some (.int .i64 t)) := fun w' h => by
        have p := X.below h (Nat.le_refl _)
        exact ⟨p.c0, p.c1, p.c2, p.c3⟩
      have hLz : Fls (w2.drew.alloc (.cells Z 26)) (.slice (some ⟨w2.heap.size, 0, none⟩) n n) (List.replicate n 0) := by
        have h1 : RowF (w2.drew.alloc (.cells Z 26)) w2.heap.size (List.replicate n 0) := by rw [HZ.out]; exact Go.Deep.blk_alloc_new w2.drew _
        have h := h1.fls (by intro x hx; have := List.eq_of_mem_replicate hx; omega) (by simp; omega)
        simpa using h
      have B2 := B.trans (bZ.mono B.size)
      have Y2 := Y.below bZ Y.lt
      have kN2 := kN _ _ B2 hLz
      clear kN
      go_wp2_with fail
      go_region_held3 (fun w' => w'.cell? ⟨w.heap.size, 0, none⟩ = some (.int .i64 (n : Int)) ∧ w'.cell? ⟨w.heap.size, 1, none⟩ = some (.slice a xs.length cap) ∧ w'.cell? ⟨w.heap.size, 2, none⟩ = some (.int .i64 m) ∧ w'.cell? ⟨w.heap.size, 3, none⟩ = some (.int .i64 t)) (first | exact mk _ (by assumption) | exact mk _ hb2)
        ((go_at_call 16; refine kN2.mono ?_; rintro e w3 ⟨rfl, hb⟩; have hb2 : Below w2.heap.size w2 w3 := bZ.trans (hb.mono bZ.size)))
      all_goals
        replace Y := Y2.below hb Y2.lt
        replace B := B2.trans (hb.mono B2.size)
        clear hb hb2 c0 c1 c2 c3 Y2 B2 hLz bD bZ mk
        have y1 := Y.c1
        have y2 := Y.c2
        go_wp2_with fail
        refine (kE _).mono ?_
        rintro e w4 ⟨rfl, rfl⟩
        go_wp2_with fail
        refine (hlive _ (hT.below B)).mono ?_
        rintro e w' ⟨rfl, hb⟩
        go_wp2
        go_ret
        exact ⟨rfl, B.trans (hb.mono B.size)⟩
    · generalize sF c xs m t = F at *
      generalize sR c xs m t = R at *
      generalize sT c xs m t = T at *
      generalize sV c xs m t = V at *
      generalize sI c xs m t = I at *
      rw [hE] at kO
      generalize miV c xs m t ls = M at *
      obtain ⟨E, HE⟩ : ∃ E, Hid (miE c xs m t ls = E) := ⟨_, rfl⟩
      rw [HE.out] at kM hM
      have hM' : (E != 0) = true := by simpa using hM
      clear hM hE
      go_enter Tryd.func6, Tryd.ntmps6
      go_wp2_with fail
      refine kO.mono ?_
      rintro e w1 ⟨rfl, hb⟩
      replace X := X.step hb (scells F R T V I)
      replace B := bal2 B hb (scells F R T V I) B.size
      clear hb kO
      have c0 := X.c0
      have c1 := X.c1
      have c2 := X.c2
      have c3 := X.c3
      go_wp2_with fail
      refine (kM _ B).mono ?_
      rintro e w2 ⟨rfl, hb⟩
      replace B := B.trans (hb.mono B.size)
      clear hb kM c0 c1 c2 c3
      go_wp2_with fail
      refine (hlive _ (hT.below B)).mono ?_
      rintro e w' ⟨rfl, hb⟩
      go_wp2
      go_ret
      exact ⟨rfl, B.trans (hb.mono B.size)⟩
  · generalize sF c xs m t = F at *
    generalize sR c xs m t = R at *
    generalize sT c xs m t = T at *
    generalize sV c xs m t = V at *
    generalize sI c xs m t = I at *
    generalize miV c xs m t ls = M at *
    generalize miE c xs m t ls = E2 at *
    obtain ⟨E, HE⟩ : ∃ E, Hid (stE c xs m t = E) := ⟨_, rfl⟩
    rw [HE.out] at kO hE
    have hE' : (E != 0) = true := by simpa using hE
    clear hE
    go_enter Tryd.func6, Tryd.ntmps6
    go_wp2_with fail
    refine kO.mono ?_
    rintro e w1 ⟨rfl, hb⟩
    replace X := X.step hb (scells F R T V I)
    replace B := bal2 B hb (scells F R T V I) B.size
    clear hb kO
    have c0 := X.c0
    have c1 := X.c1
    have c2 := X.c2
    have c3 := X.c3
    go_wp2_with fail
    refine (kM _ B).mono ?_
    rintro e w2 ⟨rfl, hb⟩
    replace B := B.trans (hb.mono B.size)
    clear hb kM c0 c1 c2 c3
    go_wp2_with fail
    refine (hlive _ (hT.below B)).mono ?_
    rintro e w' ⟨rfl, hb⟩
    go_wp2
    go_ret
    exact ⟨rfl, B.trans (hb.mono B.size)⟩
end Go.Proofs.YtbkmpoeaindnaaaDoor
