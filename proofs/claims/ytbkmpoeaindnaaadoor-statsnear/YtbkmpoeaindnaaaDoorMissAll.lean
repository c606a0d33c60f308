/- stats.Miss. -/
import Derived.Test.YtbkmpoeaindnaaaDoorStTwo
namespace Go.Proofs.YtbkmpoeaindnaaaDoor
open Go.RowKit Go.Shelf Rnd

/-- What Miss tells: the error, and the float. -/
def finO (o : Option Nat) : Bool := match o with | some z => decide (kindN z ≤ 1) | none => false
def miE (c : Int) (xs : List Nat) (r t : Int) (ls : List Nat) : Int :=
  if checkB c xs r t = false ∨ (ls.length : Int) ≠ c then 1 else if finO (missC c c.toNat xs r t ls) = true then 0 else 2
def miV (c : Int) (xs : List Nat) (r t : Int) (ls : List Nat) : Nat := if miE c xs r t ls = 0 then (missC c c.toNat xs r t ls).getD 0 else 0
def MisC (f : Nat) (w : World) (c : Int) (sv lv : Value) (xs ls : List Nat) (r t : Int) : Prop :=
  Calls Tryd.prog f #[fv c sv r t, lv] w fun e w' => e = .returned (.tuple #[fl (miV c xs r t ls), .int .i64 (miE c xs r t ls)]) ∧ Below w.heap.size w w'

theorem miE_zero {c r t : Int} {xs ls : List Nat} (h : miE c xs r t ls = 0) : checkB c xs r t = true ∧ (ls.length : Int) = c ∧ finO (missC c c.toNat xs r t ls) = true := by
  unfold miE at h
  split at h
  · cases h
  · next h1 =>
    split at h
    · next h2 =>
      refine ⟨?_, ?_, h2⟩
      · cases hc : checkB c xs r t with
        | true => rfl
        | false => exact absurd (.inl hc) h1
      · exact Classical.byContradiction fun h' => h1 (.inr h')
    · cases h
theorem mi_arg {c r t : Int} {xs ls : List Nat} (h : checkB c xs r t = false ∨ (ls.length : Int) ≠ c) : miE c xs r t ls = 1 ∧ miV c xs r t ls = 0 := by
  have h1 : miE c xs r t ls = 1 := if_pos h
  refine ⟨h1, ?_⟩
  unfold miV
  rw [h1]
  rfl
theorem mi_fin {c r t : Int} {xs ls : List Nat} {z : Nat} (h : checkB c xs r t = true) (hl : (ls.length : Int) = c) (hz : cls z = missC c c.toNat xs r t ls) (hk : kindN z ≤ 1) : miE c xs r t ls = 0 ∧ miV c xs r t ls = z := by
  have h0 : cls z = some z := cls_num (by have := (kind1 z).1 hk; omega)
  have h1 : miE c xs r t ls = 0 := by
    unfold miE
    rw [if_neg (by rw [h]; simp [hl]), ← hz, h0]
    have : finO (some z) = true := decide_eq_true hk
    rw [if_pos this]
  refine ⟨h1, ?_⟩
  unfold miV
  rw [h1, if_pos rfl, ← hz, h0]
  rfl
theorem mi_inf {c r t : Int} {xs ls : List Nat} {z : Nat} (h : checkB c xs r t = true) (hl : (ls.length : Int) = c) (hz : cls z = missC c c.toNat xs r t ls) (hk : ¬ kindN z ≤ 1) : miE c xs r t ls = 2 ∧ miV c xs r t ls = 0 := by
  have h1 : miE c xs r t ls = 2 := by
    unfold miE
    rw [if_neg (by rw [h]; simp [hl]), ← hz]
    have : finO (cls z) = false := by
      unfold cls
      split
      · rfl
      · exact decide_eq_false hk
    rw [this, if_neg (by simp)]
  refine ⟨h1, ?_⟩
  unfold miV
  rw [h1]
  rfl
theorem kind_cases (x : Nat) : kindN x ≤ 1 ∨ kindN x = 2 ∨ kindN x = 3 := by
  unfold kindN
  split
  · split <;> simp
  · split <;> simp

set_option maxRecDepth 100000 in
set_option maxHeartbeats 2000000 in
theorem miss_all (c r t : Int) (sv lv : Value) (xs ls : List Nat) (w : World) (hT : Tab w) (hF : Fls w sv xs) (hL : Fls w lv ls) : MisC 16 w c sv lv xs ls r t := by
  unfold MisC
  have hl1 := hL.2.1
  obtain ⟨a, cap, rfl, hcap⟩ := hF.shape
  obtain ⟨la, lcap, rfl, hlcap⟩ := hL.shape
  have hB : Below w.heap.size w (w.alloc (fcells c (.slice a xs.length cap) r t)) := (Below.refl _ w).alloc (Nat.le_refl _) _
  have X := FBox.new w c (.slice a xs.length cap) r t
  have kC := check_c c r t _ xs _ (hT.below hB) (hF.below hB (Nat.le_refl _))
  cases hck : checkB c xs r t with
  | false =>
    obtain ⟨e1, e2⟩ := mi_arg (ls := ls) (.inl hck)
    rw [e1, e2]
    rw [hck] at kC
    clear e1 e2 hck
    go_enter Tryd.func16, Tryd.ntmps16
    go_wp2_with fail
    refine kC.mono ?_
    rintro e w1 ⟨rfl, hb1⟩
    have B1 := hB.trans (hb1.mono hB.size)
    go_wp2_with fail
    go_ret2
    exact ⟨rfl, B1⟩
  | true =>
    rw [hck] at kC
    by_cases hlen : (ls.length : Int) = c
    · have HCK : Hid (checkB c xs r t = true) := hck
      have HLE : Hid ((ls.length : Int) = c) := hlen
      obtain ⟨n, hn, hn1, hn6, hxl⟩ := check_len hck
      clear hxl
      subst hn
      have hln : ls.length = n := by omega
      clear hck hlen
      have hne : ((n : Int) != (n : Int)) = false := by simp
      rw [hln] at hL hlcap ⊢
      obtain ⟨E, HE⟩ : ∃ E, Hid (miE n xs r t ls = E) := ⟨_, rfl⟩
      obtain ⟨V, HV⟩ : ∃ V, Hid (miV n xs r t ls = V) := ⟨_, rfl⟩
      rw [HE.out, HV.out]
      have HLN : Hid (ls.length = n) := hln
      clear hln
      go_enter Tryd.func16, Tryd.ntmps16
      go_wp2_with fail
      refine kC.mono ?_
      rintro e w1 ⟨rfl, hb1⟩
      have B1 := hB.trans (hb1.mono hB.size)
      have X1 := X.below hb1 (Nat.le_refl _)
      have c0 := X1.c0
      have c1 := X1.c1
      have c2 := X1.c2
      have c3 := X1.c3
      clear hb1 X hB kC
      have kM := missOf_c n r t _ _ xs ls w1 hn6 (hT.below B1) (hF.below B1 (Nat.le_refl _)) (hL.below B1 (Nat.le_refl _)) HLN.out
      go_wp2_with fail
      refine kM.mono ?_
      rintro e w2 ⟨⟨z, rfl, hz, hcz⟩, hb2⟩
      have B2 := B1.trans (hb2.mono B1.size)
      have HCZ : Hid (cls z = missC n (n : Int).toNat xs r t ls) := by rw [Int.toNat_natCast]; exact hcz
      clear hb2 kM c0 c1 c2 c3 X1 B1 hcz
      have kI := isinf_c z hz
      have kN := isnan_c z
      rcases kind_cases z with h1 | h1 | h1
      · obtain ⟨e1, e2⟩ := mi_fin HCK.out HLE.out HCZ.out h1
        rw [decide_eq_false (by omega)] at kI kN
        have HE1 : Hid (E = 0) := HE.out.symm.trans e1
        have HE2 : Hid (V = z) := HV.out.symm.trans e2
        clear e1 e2 h1
        go_wp2_with fail
        refine (kI _).mono ?_
        rintro e w3 ⟨rfl, rfl⟩
        go_wp2_with fail
        refine (kN _).mono ?_
        rintro e w4 ⟨rfl, rfl⟩
        go_wp2_with fail
        go_ret2
        exact ⟨by rw [HE1.out, HE2.out]; rfl, B2⟩
      · obtain ⟨e1, e2⟩ := mi_inf HCK.out HLE.out HCZ.out (by omega)
        rw [decide_eq_true h1] at kI
        have HE1 : Hid (E = 2) := HE.out.symm.trans e1
        have HE2 : Hid (V = 0) := HV.out.symm.trans e2
        clear e1 e2 h1
        go_wp2_with fail
        refine (kI _).mono ?_
        rintro e w3 ⟨rfl, rfl⟩
        go_wp2_with fail
        go_ret2
        exact ⟨by rw [HE1.out, HE2.out]; rfl, B2⟩
      · obtain ⟨e1, e2⟩ := mi_inf HCK.out HLE.out HCZ.out (by omega)
        rw [decide_eq_false (by omega)] at kI
        rw [decide_eq_true h1] at kN
        have HE1 : Hid (E = 2) := HE.out.symm.trans e1
        have HE2 : Hid (V = 0) := HV.out.symm.trans e2
        clear e1 e2 h1
        go_wp2_with fail
        refine (kI _).mono ?_
        rintro e w3 ⟨rfl, rfl⟩
        go_wp2_with fail
        refine (kN _).mono ?_
        rintro e w4 ⟨rfl, rfl⟩
        go_wp2_with fail
        go_ret2
        exact ⟨by rw [HE1.out, HE2.out]; rfl, B2⟩
    · obtain ⟨e1, e2⟩ := mi_arg (xs := xs) (r := r) (t := t) (.inr hlen)
      rw [e1, e2]
      have hne : ((ls.length : Int) != c) = true := by simpa using hlen
      clear e1 e2 hck hlen
      go_enter Tryd.func16, Tryd.ntmps16
      go_wp2_with fail
      refine kC.mono ?_
      rintro e w1 ⟨rfl, hb1⟩
      have B1 := hB.trans (hb1.mono hB.size)
      have c0 := (X.below hb1 (Nat.le_refl _)).c0
      go_wp2_with fail
      go_ret2
      exact ⟨rfl, B1⟩
end Go.Proofs.YtbkmpoeaindnaaaDoor
