/- stats.Of, stats.Spread. -/
import Derived.Deep.RegionHeld3
import Derived.Test.YtbkmpoeaindnaaaDoorStN
namespace Go.Proofs.YtbkmpoeaindnaaaDoor
open Go.RowKit Go.Shelf Rnd

abbrev stv (F : Int) (R T V I : Nat) : Value := .agg #[.int .i64 F, fl R, fl T, fl V, fl I]

/-- What Of tells: the error, and the five numbers. -/
def stE (c : Int) (xs : List Nat) (r t : Int) : Int := if checkB c xs r t = false then 1 else if r ≤ c then 5 else 0
def sF (c : Int) (xs : List Nat) (r t : Int) : Int := if stE c xs r t = 0 then r - c else 0
def sR (c : Int) (xs : List Nat) (r t : Int) : Nat := if stE c xs r t = 0 then restN c xs r t else 0
def sT (c : Int) (xs : List Nat) (r t : Int) : Nat := if stE c xs r t = 0 then totN c xs r t else 0
def sV (c : Int) (xs : List Nat) (r t : Int) : Nat := if stE c xs r t = 0 then varN c xs r t else 0
def sI (c : Int) (xs : List Nat) (r t : Int) : Nat := if stE c xs r t = 0 then fitN c xs r t else 0
def sS (c : Int) (xs : List Nat) (r t : Int) : Nat := if stE c xs r t = 0 then spN c xs r t else 0

theorem stE_zero {c r t : Int} {xs : List Nat} (h : stE c xs r t = 0) : checkB c xs r t = true ∧ c < r := by
  unfold stE at h
  split at h
  · cases h
  · next h1 =>
    split at h
    · cases h
    · exact ⟨by simpa using h1, by omega⟩
theorem stE_yes {c r t : Int} {xs : List Nat} (h1 : checkB c xs r t = true) (h2 : c < r) : stE c xs r t = 0 := by
  unfold stE
  rw [if_neg (by rw [h1]; simp), if_neg (by omega)]
theorem stE_few {c r t : Int} {xs : List Nat} (h1 : checkB c xs r t = true) (h2 : r ≤ c) : stE c xs r t = 5 := by
  unfold stE
  rw [if_neg (by rw [h1]; simp), if_pos h2]
theorem stE_arg {c r t : Int} {xs : List Nat} (h1 : checkB c xs r t = false) : stE c xs r t = 1 := if_pos h1
theorem st_no {c r t : Int} {xs : List Nat} (h : stE c xs r t ≠ 0) : sF c xs r t = 0 ∧ sR c xs r t = 0 ∧ sT c xs r t = 0 ∧ sV c xs r t = 0 ∧ sI c xs r t = 0 ∧ sS c xs r t = 0 := by
  unfold sF sR sT sV sI sS
  simp [h]
theorem st_yes {c r t : Int} {xs : List Nat} (h : stE c xs r t = 0) : sF c xs r t = r - c ∧ sR c xs r t = restN c xs r t ∧ sT c xs r t = totN c xs r t ∧ sV c xs r t = varN c xs r t ∧ sI c xs r t = fitN c xs r t ∧ sS c xs r t = spN c xs r t := by
  unfold sF sR sT sV sI sS
  simp [h]

/-- A call answers what Of tells. -/
def OfC (f : Nat) (w : World) (c : Int) (sv : Value) (xs : List Nat) (r t : Int) : Prop :=
  Calls Tryd.prog f #[fv c sv r t] w fun e w' => e = .returned (.tuple #[stv (sF c xs r t) (sR c xs r t) (sT c xs r t) (sV c xs r t) (sI c xs r t), .int .i64 (stE c xs r t)]) ∧ Below w.heap.size w w'

abbrev scells (F : Int) (R T V I : Nat) : Obj := .cells #[.int .i64 F, fl R, fl T, fl V, fl I] 28
def SBox (W : World) (B : Nat) (F : Int) (R T V I : Nat) : Prop := W.heap[B]? = some (scells F R T V I)
theorem SBox.lt {W : World} {B : Nat} {F : Int} {R T V I : Nat} (h : SBox W B F R T V I) : B < W.heap.size := (Array.getElem?_eq_some_iff.1 h).1
theorem SBox.below {W W' : World} {B n : Nat} {F : Int} {R T V I : Nat} (h : SBox W B F R T V I) (hb : Below n W W') (hn : B < n) : SBox W' B F R T V I := (hb.block B hn).trans h
theorem SBox.c0 {W : World} {B : Nat} {F : Int} {R T V I : Nat} (h : SBox W B F R T V I) : W.cell? ⟨B, 0, none⟩ = some (.int .i64 F) := by simp [World.cell?, show W.heap[B]? = _ from h]
theorem SBox.c1 {W : World} {B : Nat} {F : Int} {R T V I : Nat} (h : SBox W B F R T V I) : W.cell? ⟨B, 1, none⟩ = some (fl R) := by simp [World.cell?, show W.heap[B]? = _ from h]
theorem SBox.c2 {W : World} {B : Nat} {F : Int} {R T V I : Nat} (h : SBox W B F R T V I) : W.cell? ⟨B, 2, none⟩ = some (fl T) := by simp [World.cell?, show W.heap[B]? = _ from h]
theorem SBox.c3 {W : World} {B : Nat} {F : Int} {R T V I : Nat} (h : SBox W B F R T V I) : W.cell? ⟨B, 3, none⟩ = some (fl V) := by simp [World.cell?, show W.heap[B]? = _ from h]
theorem SBox.c4 {W : World} {B : Nat} {F : Int} {R T V I : Nat} (h : SBox W B F R T V I) : W.cell? ⟨B, 4, none⟩ = some (fl I) := by simp [World.cell?, show W.heap[B]? = _ from h]
theorem SBox.fz {W : World} {B : Nat} {F : Int} {R T V I : Nat} (h : SBox W B F R T V I) (k : Nat) : W.frozen? ⟨B, k, none⟩ = false := by simp [World.frozen?, show W.heap[B]? = _ from h]
theorem SBox.new (w : World) (F : Int) (R T V I : Nat) : SBox (w.alloc (scells F R T V I)) w.heap.size F R T V I := Go.Deep.blk_alloc_new _ _
theorem SBox.set0 {W : World} {B : Nat} {F : Int} {R T V I : Nat} (h : SBox W B F R T V I) (z : Int) : SBox (W.setCell ⟨B, 0, none⟩ (.int .i64 z)) B z R T V I := by
  obtain ⟨hlt, hk⟩ := Array.getElem?_eq_some_iff.1 h
  show (W.heap.modify B _)[B]? = _
  rw [Array.getElem?_eq_getElem (by rw [Array.size_modify]; exact hlt), Array.getElem_modify_self, hk]
  rfl
theorem SBox.set1 {W : World} {B : Nat} {F : Int} {R T V I : Nat} (h : SBox W B F R T V I) (z : Nat) : SBox (W.setCell ⟨B, 1, none⟩ (fl z)) B F z T V I := by
  obtain ⟨hlt, hk⟩ := Array.getElem?_eq_some_iff.1 h
  show (W.heap.modify B _)[B]? = _
  rw [Array.getElem?_eq_getElem (by rw [Array.size_modify]; exact hlt), Array.getElem_modify_self, hk]
  rfl
theorem SBox.set2 {W : World} {B : Nat} {F : Int} {R T V I : Nat} (h : SBox W B F R T V I) (z : Nat) : SBox (W.setCell ⟨B, 2, none⟩ (fl z)) B F R z V I := by
  obtain ⟨hlt, hk⟩ := Array.getElem?_eq_some_iff.1 h
  show (W.heap.modify B _)[B]? = _
  rw [Array.getElem?_eq_getElem (by rw [Array.size_modify]; exact hlt), Array.getElem_modify_self, hk]
  rfl
theorem SBox.set3 {W : World} {B : Nat} {F : Int} {R T V I : Nat} (h : SBox W B F R T V I) (z : Nat) : SBox (W.setCell ⟨B, 3, none⟩ (fl z)) B F R T z I := by
  obtain ⟨hlt, hk⟩ := Array.getElem?_eq_some_iff.1 h
  show (W.heap.modify B _)[B]? = _
  rw [Array.getElem?_eq_getElem (by rw [Array.size_modify]; exact hlt), Array.getElem_modify_self, hk]
  rfl
theorem SBox.set4 {W : World} {B : Nat} {F : Int} {R T V I : Nat} (h : SBox W B F R T V I) (z : Nat) : SBox (W.setCell ⟨B, 4, none⟩ (fl z)) B F R T V z := by
  obtain ⟨hlt, hk⟩ := Array.getElem?_eq_some_iff.1 h
  show (W.heap.modify B _)[B]? = _
  rw [Array.getElem?_eq_getElem (by rw [Array.size_modify]; exact hlt), Array.getElem_modify_self, hk]
  rfl
/-- Five numbers stored over others. -/
def putS (W : World) (B : Nat) (F : Int) (R T V I : Nat) : World := ((((W.setCell ⟨B, 0, none⟩ (.int .i64 F)).setCell ⟨B, 1, none⟩ (fl R)).setCell ⟨B, 2, none⟩ (fl T)).setCell ⟨B, 3, none⟩ (fl V)).setCell ⟨B, 4, none⟩ (fl I)
theorem SBox.put {W : World} {B : Nat} {F : Int} {R T V I : Nat} (h : SBox W B F R T V I) (F' : Int) (R' T' V' I' : Nat) : SBox (putS W B F' R' T' V' I') B F' R' T' V' I' := ((((h.set0 F').set1 R').set2 T').set3 V').set4 I'
theorem putS_below {W0 W : World} {B n : Nat} (h : Below n W0 W) (hB : n ≤ B) (F : Int) (R T V I : Nat) : Below n W0 (putS W B F R T V I) := ((((h.setCell (p := ⟨B, 0, none⟩) hB _).setCell (p := ⟨B, 1, none⟩) hB _).setCell (p := ⟨B, 2, none⟩) hB _).setCell (p := ⟨B, 3, none⟩) hB _).setCell (p := ⟨B, 4, none⟩) hB _
theorem SBox.other {W : World} {B : Nat} {F : Int} {R T V I : Nat} (h : SBox W B F R T V I) (p : Addr) (v : Value) (hp : p.block ≠ B) : SBox (W.setCell p v) B F R T V I := (Go.Deep.blk_setCell_other W p v B (fun e => hp e.symm)).trans h

theorem of_results {W : World} {B : Nat} {F : Int} {R T V I : Nat} (h : SBox W B F R T V I) {tmps : Array Value} {e : Int} (h6 : tmps.getD 2 undef = .pointer (some ⟨B, 0, none⟩)) (h7 : tmps.getD 3 undef = .int .i64 e) :
    (results Tryd.f10 tmps).run Tryd.prog W = .ok (.tuple #[stv F R T V I, .int .i64 e]) W := by
  have k0 := h.c0
  have k1 := h.c1
  have k2 := h.c2
  have k3 := h.c3
  have k4 := h.c4
  rw [results_cell_tmp rfl, h6, h7]
  simp [go_sem, k0, k1, k2, k3, k4]

set_option maxRecDepth 100000 in
set_option maxHeartbeats 2000000 in
theorem of_yes (c r t : Int) (sv : Value) (xs : List Nat) (w : World) (hT : Tab w) (hF : Fls w sv xs) (hck : checkB c xs r t = true) (hr : c < r) : OfC 10 w c sv xs r t := by
  have S := st_ok hck hF.1 hr
  obtain ⟨y1, y2, y3, y4, y5, y6⟩ := st_yes (stE_yes hck hr)
  unfold OfC
  rw [y1, y2, y3, y4, y5, stE_yes hck hr]
  clear y1 y2 y3 y4 y5 y6
  obtain ⟨n, rfl, hn1, hn6, hlen⟩ := check_len hck
  have htt := check_turns hck
  have HCK : Hid (checkB n xs r t = true) := hck
  clear hck hlen
  obtain ⟨a, cap, rfl, hcap⟩ := hF.shape
  have hB : Below w.heap.size w ((w.alloc (fcells n (.slice a xs.length cap) r t)).alloc (scells 0 0 0 0 0)) := ((Below.refl _ w).alloc (Nat.le_refl _) _).alloc (by simp) _
  have X : FBox ((w.alloc (fcells n (.slice a xs.length cap) r t)).alloc (scells 0 0 0 0 0)) w.heap.size n (.slice a xs.length cap) r t := (FBox.new w n (.slice a xs.length cap) r t).below ((Below.refl _ _).alloc (Nat.le_refl _) _) (Nat.le_refl _)
  have Y : SBox ((w.alloc (fcells n (.slice a xs.length cap) r t)).alloc (scells 0 0 0 0 0)) (w.heap.size + 1) 0 0 0 0 0 := by
    have h := SBox.new (w.alloc (fcells n (.slice a xs.length cap) r t)) 0 0 0 0 0
    rw [World.size_alloc] at h
    exact h
  have hr' : ¬ r ≤ (n : Int) := by omega
  go_enter Tryd.func10, Tryd.ntmps10
  go_wp2_with fail
  refine (check_c n r t _ xs _ (hT.below hB) (hF.below hB (Nat.le_refl _))).mono ?_
  rw [HCK.out]
  rintro e w1 ⟨rfl, hb1⟩
  have X1 := X.below hb1 (Nat.le_refl _)
  have Y1 := Y.below hb1 Y.lt
  have B1 := hB.trans (hb1.mono hB.size)
  have c0 := X1.c0
  have c1 := X1.c1
  have c2 := X1.c2
  have c3 := X1.c3
  clear hb1 X Y hB
  have hTot := S.tot
  rw [Int.toNat_natCast] at hTot
  have hRst := S.rest
  have kR : ∀ W, Below w1.heap.size w1 W → Calls Tryd.prog 32 #[fv n (.slice a xs.length cap) r t] W fun e w' => e = .returned (fl (restN n xs r t)) ∧ Below w1.heap.size w1 w' := fun W hb => by
    refine (rest_c n r t _ xs W ((hT.below B1).below hb) ((hF.below B1 (Nat.le_refl _)).below hb (Nat.le_refl _))).mono ?_
    rintro e w' ⟨⟨z, rfl, _, hc⟩, hb'⟩
    rw [cls_some (hc.trans hRst)]
    exact ⟨rfl, hb.trans (hb'.mono hb.size)⟩
  have kT : ∀ W, Below w1.heap.size w1 W → Calls Tryd.prog 33 #[fv n (.slice a xs.length cap) r t] W fun e w' => e = .returned (fl (totN n xs r t)) ∧ Below w1.heap.size w1 w' := fun W hb => by
    refine (tot_c n r t _ xs W hn6 ((hT.below B1).below hb) ((hF.below B1 (Nat.le_refl _)).below hb (Nat.le_refl _))).mono ?_
    rintro e w' ⟨⟨z, rfl, _, hc⟩, hb'⟩
    rw [cls_some (hc.trans hTot)]
    exact ⟨rfl, hb.trans (hb'.mono hb.size)⟩
  obtain ⟨R, HR⟩ : ∃ R, Hid (restN n xs r t = R) := ⟨_, rfl⟩
  obtain ⟨T, HT⟩ : ∃ T, Hid (totN n xs r t = T) := ⟨_, rfl⟩
  obtain ⟨V, HV⟩ : ∃ V, Hid (varN n xs r t = V) := ⟨_, rfl⟩
  obtain ⟨I, HI⟩ : ∃ I, Hid (fitN n xs r t = I) := ⟨_, rfl⟩
  have hdv := S.div
  rw [HR.out, HV.out] at hdv
  have hq : ∀ w : World, (binOp .quo 26 (fl R) (fl (floatOfInt .f64 (r - n)))).run Tryd.prog w = .ok (fl V) w := fun w => run_float_arith w .quo _ _ _ _ _ hdv
  have kI : ∀ W, Calls Tryd.prog 34 #[fl R, fl T] W fun e w' => e = .returned (fl I) ∧ w' = W := by
    intro W
    rw [← HR.out, ← HT.out, ← HI.out]
    rcases Nat.eq_zero_or_pos (totN n xs r t) with h0 | h0
    · rw [h0, S.fit0 h0]
      exact fit_zero _ W
    · obtain ⟨q, d1, d2⟩ := S.fit1 h0
      exact fit_some _ _ q _ h0 (Nat.le_of_lt S.totF) d1 d2 W
  have HP : Hid (stv (r - n) (restN n xs r t) (totN n xs r t) (varN n xs r t) (fitN n xs r t) = stv (r - n) R T V I) := by
    show _ = _
    rw [HR.out, HT.out, HV.out, HI.out]
  have bD : Below w1.heap.size w1 w1.drew := (Below.refl _ w1).drew
  have mk : ∀ w', Below w1.heap.size w1 w' → (w'.cell? ⟨w.heap.size, 0, none⟩ = some (.int .i64 (n : Int)) ∧ w'.cell? ⟨w.heap.size, 1, none⟩ = some (.slice a xs.length cap) ∧ w'.cell? ⟨w.heap.size, 2, none⟩ = some (.int .i64 r) ∧ w'.cell? ⟨w.heap.size, 3, none⟩ = some (.int .i64 t)) := fun w' h => by
    have p := X1.below h (Nat.le_refl _)
    exact ⟨p.c0, p.c1, p.c2, p.c3⟩
  rw [HR.out] at kR
  rw [HT.out] at kT
  clear hTot hRst hdv S
  go_wp2_with fail
  go_region_held3 (fun w' => w'.cell? ⟨w.heap.size, 0, none⟩ = some (.int .i64 (n : Int)) ∧ w'.cell? ⟨w.heap.size, 1, none⟩ = some (.slice a xs.length cap) ∧ w'.cell? ⟨w.heap.size, 2, none⟩ = some (.int .i64 r) ∧ w'.cell? ⟨w.heap.size, 3, none⟩ = some (.int .i64 t)) (exact mk _ (by assumption))
    ((first | (go_at_call 32; refine (kR _ bD).mono ?_; rintro e w2 ⟨rfl, hb2⟩) | (go_at_call 33; refine (kT w2 hb2).mono ?_; rintro e w3 ⟨rfl, hb3⟩)))
  have Y3 := Y1.below hb3 Y1.lt
  have B3 := B1.trans (hb3.mono B1.size)
  clear mk bD kR kT hb2 X1 Y1 B1 c0 c1 c2 c3
  have hcv : ∀ w : World, (convert 3 26 (.int .i64 (r - n))).run Tryd.prog w = .ok (fl (floatOfInt .f64 (r - n))) w := fun w => run_convert_int_float w 3 26 .i64 .f64 (r - n) (by kernel_rfl) Tryd.underlying26
  go_wp2_with fail
  refine (kI _).mono ?_
  rintro e w4 ⟨rfl, rfl⟩
  have y0 := Y3.c0
  have y1 := Y3.c1
  have y2 := Y3.c2
  have y3 := Y3.c3
  have y4 := Y3.c4
  have z0 := Y3.fz 0
  have z1 := Y3.fz 1
  have z2 := Y3.fz 2
  have z3 := Y3.fz 3
  have z4 := Y3.fz 4
  have Z := Y3.put (r - n) R T V I
  have B4 := putS_below B3 (B := w.heap.size + 1) (by omega) (r - n) R T V I
  unfold putS at Z B4
  go_wp2_with fail
  exact bodyPost_ret_by (v := .tuple #[stv (r - n) R T V I, .int .i64 0]) (of_results Z rfl rfl) rfl ⟨by rw [HR.out, HT.out, HV.out, HI.out], B4⟩
end Go.Proofs.YtbkmpoeaindnaaaDoor

/- stats.Of where it tells nothing; stats.Spread. -/
namespace Go.Proofs.YtbkmpoeaindnaaaDoor
open Go.RowKit Go.Shelf Rnd

set_option maxRecDepth 100000 in
set_option maxHeartbeats 2000000 in
theorem of_no (c r t : Int) (sv : Value) (xs : List Nat) (w : World) (hT : Tab w) (hF : Fls w sv xs) (hno : checkB c xs r t = false ∨ r ≤ c) : OfC 10 w c sv xs r t := by
  have hE : stE c xs r t ≠ 0 := fun h => by
    obtain ⟨h1, h2⟩ := stE_zero h
    rcases hno with h | h
    · rw [h1] at h; cases h
    · omega
  obtain ⟨y1, y2, y3, y4, y5, _⟩ := st_no hE
  unfold OfC
  rw [y1, y2, y3, y4, y5]
  clear y1 y2 y3 y4 y5 hE
  obtain ⟨a, cap, rfl, hcap⟩ := hF.shape
  have hB : Below w.heap.size w ((w.alloc (fcells c (.slice a xs.length cap) r t)).alloc (scells 0 0 0 0 0)) := ((Below.refl _ w).alloc (Nat.le_refl _) _).alloc (by simp) _
  have X : FBox ((w.alloc (fcells c (.slice a xs.length cap) r t)).alloc (scells 0 0 0 0 0)) w.heap.size c (.slice a xs.length cap) r t := (FBox.new w c (.slice a xs.length cap) r t).below ((Below.refl _ _).alloc (Nat.le_refl _) _) (Nat.le_refl _)
  have Y : SBox ((w.alloc (fcells c (.slice a xs.length cap) r t)).alloc (scells 0 0 0 0 0)) (w.heap.size + 1) 0 0 0 0 0 := by
    have h := SBox.new (w.alloc (fcells c (.slice a xs.length cap) r t)) 0 0 0 0 0
    rw [World.size_alloc] at h
    exact h
  obtain ⟨E, HE⟩ : ∃ E, Hid (stE c xs r t = E) := ⟨_, rfl⟩
  rw [HE.out]
  cases hck : checkB c xs r t with
  | false =>
    have HCK : Hid (checkB c xs r t = false) := hck
    have hE1 : E = 1 := by rw [← HE.out]; exact stE_arg hck
    subst hE1
    clear hck hno
    go_enter Tryd.func10, Tryd.ntmps10
    go_wp2_with fail
    refine (check_c c r t _ xs _ (hT.below hB) (hF.below hB (Nat.le_refl _))).mono ?_
    rw [HCK.out]
    rintro e w1 ⟨rfl, hb1⟩
    have Y3 := Y.below hb1 Y.lt
    have B3 := hB.trans (hb1.mono hB.size)
    clear hb1 X Y hB
    have y0 := Y3.c0
    have y1 := Y3.c1
    have y2 := Y3.c2
    have y3 := Y3.c3
    have y4 := Y3.c4
    have z0 := Y3.fz 0
    have z1 := Y3.fz 1
    have z2 := Y3.fz 2
    have z3 := Y3.fz 3
    have z4 := Y3.fz 4
    have Z := Y3.put 0 0 0 0 0
    have B4 := putS_below B3 (B := w.heap.size + 1) (by omega) 0 0 0 0 0
    unfold putS at Z B4
    go_wp2_with fail
    exact bodyPost_ret_by (v := .tuple #[stv 0 0 0 0 0, .int .i64 1]) (of_results Z rfl rfl) rfl ⟨rfl, B4⟩
  | true =>
    have HCK : Hid (checkB c xs r t = true) := hck
    have hrc : r ≤ c := by
      rcases hno with h | h
      · rw [hck] at h; cases h
      · exact h
    have hE1 : E = 5 := by rw [← HE.out]; exact stE_few hck hrc
    subst hE1
    clear hck hno
    go_enter Tryd.func10, Tryd.ntmps10
    go_wp2_with fail
    refine (check_c c r t _ xs _ (hT.below hB) (hF.below hB (Nat.le_refl _))).mono ?_
    rw [HCK.out]
    rintro e w1 ⟨rfl, hb1⟩
    have X1 := X.below hb1 (Nat.le_refl _)
    have c0 := X1.c0
    have c2 := X1.c2
    have Y3 := Y.below hb1 Y.lt
    have B3 := hB.trans (hb1.mono hB.size)
    clear hb1 X Y hB X1
    have y0 := Y3.c0
    have y1 := Y3.c1
    have y2 := Y3.c2
    have y3 := Y3.c3
    have y4 := Y3.c4
    have z0 := Y3.fz 0
    have z1 := Y3.fz 1
    have z2 := Y3.fz 2
    have z3 := Y3.fz 3
    have z4 := Y3.fz 4
    have Z := Y3.put 0 0 0 0 0
    have B4 := putS_below B3 (B := w.heap.size + 1) (by omega) 0 0 0 0 0
    unfold putS at Z B4
    go_wp2_with fail
    exact bodyPost_ret_by (v := .tuple #[stv 0 0 0 0 0, .int .i64 5]) (of_results Z rfl rfl) rfl ⟨rfl, B4⟩

theorem of_all (c r t : Int) (sv : Value) (xs : List Nat) (w : World) (hT : Tab w) (hF : Fls w sv xs) : OfC 10 w c sv xs r t := by
  by_cases h : checkB c xs r t = true ∧ c < r
  · exact of_yes c r t sv xs w hT hF h.1 h.2
  · refine of_no c r t sv xs w hT hF ?_
    cases hck : checkB c xs r t with
    | false => exact .inl rfl
    | true => exact .inr (by have : ¬ c < r := fun h' => h ⟨hck, h'⟩; omega)

/-- A call answers what Spread tells. -/
def SpC (f : Nat) (w : World) (c : Int) (sv : Value) (xs : List Nat) (r t : Int) : Prop :=
  Calls Tryd.prog f #[fv c sv r t] w fun e w' => e = .returned (.tuple #[fl (sS c xs r t), .int .i64 (stE c xs r t)]) ∧ Below w.heap.size w w'

set_option maxRecDepth 100000 in
set_option maxHeartbeats 2000000 in
theorem spread_all (c r t : Int) (sv : Value) (xs : List Nat) (w : World) (hT : Tab w) (hF : Fls w sv xs) : SpC 12 w c sv xs r t := by
  obtain ⟨a, cap, rfl, hcap⟩ := hF.shape
  have hB : Below w.heap.size w (w.alloc (fcells c (.slice a xs.length cap) r t)) := (Below.refl _ w).alloc (Nat.le_refl _) _
  have k := of_all c r t _ xs _ (hT.below hB) (hF.below hB (Nat.le_refl _))
  unfold OfC at k
  unfold SpC
  by_cases hE : stE c xs r t = 0
  · obtain ⟨hck, hr⟩ := stE_zero hE
    have S := st_ok hck hF.1 hr
    obtain ⟨y1, y2, y3, y4, y5, y6⟩ := st_yes hE
    have hsq := S.sp
    rw [← y4, ← y6] at hsq
    rw [hE] at k ⊢
    clear S y1 y2 y3 y4 y5 y6 hE hck hr
    generalize sF c xs r t = F at *
    generalize sR c xs r t = R at *
    generalize sT c xs r t = T at *
    generalize sV c xs r t = V at *
    generalize sI c xs r t = I at *
    generalize sS c xs r t = P at *
    go_enter Tryd.func12, Tryd.ntmps12
    go_wp2_with fail
    refine k.mono ?_
    rintro e w1 ⟨rfl, hb1⟩
    have B1 := hB.trans (hb1.mono hB.size)
    clear hb1 hB k
    go_wp2_with fail
    refine (sqrt_c V P hsq _).mono ?_
    rintro e w2 ⟨rfl, rfl⟩
    go_wp2_with fail
    go_ret2
    exact ⟨rfl, B1.alloc B1.size _⟩
  · obtain ⟨y1, y2, y3, y4, y5, y6⟩ := st_no hE
    rw [y1, y2, y3, y4, y5] at k
    rw [y6]
    clear y1 y2 y3 y4 y5 y6
    obtain ⟨E, HE⟩ : ∃ E, Hid (stE c xs r t = E) := ⟨_, rfl⟩
    rw [HE.out] at k hE ⊢
    have hE' : (E != 0) = true := by simpa using hE
    clear hE
    go_enter Tryd.func12, Tryd.ntmps12
    go_wp2_with fail
    refine k.mono ?_
    rintro e w1 ⟨rfl, hb1⟩
    have B1 := hB.trans (hb1.mono hB.size)
    clear hb1 hB k
    go_wp2_with fail
    go_ret2
    exact ⟨rfl, B1.alloc B1.size _⟩
end Go.Proofs.YtbkmpoeaindnaaaDoor

/- levellingref17.Same at like numbers. -/
namespace Go.Proofs.YtbkmpoeaindnaaaDoor
open Go.RowKit Go.Shelf Rnd

set_option maxRecDepth 100000 in
set_option maxHeartbeats 2000000 in
theorem stsame_c (F : Int) (R T V I : Nat) (hR : R < 18446744073709551616) (hT : T < 18446744073709551616) (hV : V < 18446744073709551616) (hI : I < 18446744073709551616) (w : World) :
    Calls Tryd.prog 14 #[stv F R T V I, stv F R T V I] w fun e w' => e = .returned (.bool true) ∧ Below w.heap.size w w' := by
  have k1 := same_c R R hR hR
  have k2 := same_c T T hT hT
  have k3 := same_c V V hV hV
  have k4 := same_c I I hI hI
  rw [sameB_refl] at k1 k2 k3 k4
  have hB : Below w.heap.size w ((w.alloc (scells F R T V I)).alloc (scells F R T V I)) := ((Below.refl _ w).alloc (Nat.le_refl _) _).alloc (by simp) _
  go_enter Tryd.func14, Tryd.ntmps14
  go_wp2_with fail
  refine (k1 _).mono ?_
  rintro e w1 ⟨rfl, rfl⟩
  go_wp2_with fail
  refine (k2 _).mono ?_
  rintro e w1 ⟨rfl, rfl⟩
  go_wp2_with fail
  refine (k3 _).mono ?_
  rintro e w1 ⟨rfl, rfl⟩
  go_wp2_with fail
  refine (k4 _).mono ?_
  rintro e w1 ⟨rfl, rfl⟩
  go_wp2
  go_ret
  exact ⟨rfl, hB⟩
/-- All that Of tells are words. -/
theorem st_lt {c r t : Int} {xs : List Nat} (hok : okF xs) : sR c xs r t < 18446744073709551616 ∧ sT c xs r t < 18446744073709551616 ∧ sV c xs r t < 18446744073709551616 ∧ sI c xs r t < 18446744073709551616 ∧ sS c xs r t < 18446744073709551616 := by
  by_cases h : stE c xs r t = 0
  · obtain ⟨hck, hr⟩ := stE_zero h
    have S := st_ok hck hok hr
    obtain ⟨_, y2, y3, y4, y5, y6⟩ := st_yes h
    rw [y2, y3, y4, y5, y6]
    have h1 := S.restF
    have h2 := S.totF
    have h3 := S.varL
    have h4 := S.fitL
    have h5 := S.spL
    exact ⟨by omega, by omega, by omega, by omega, h5⟩
  · obtain ⟨_, y2, y3, y4, y5, y6⟩ := st_no h
    rw [y2, y3, y4, y5, y6]
    decide
end Go.Proofs.YtbkmpoeaindnaaaDoor
