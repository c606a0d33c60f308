/- levellinglaw12.FadeAll: the walk. -/
import Derived.Deep.RegionWith
import Derived.Deep.DeepCutAuto
import Derived.Maps.AppendAt
import Derived.Laws.MakeOwn
import Derived.Test.YtdccjlaneobldaaDoorRAll
import Derived.Test.YtdccjlaneobldaaDoorCutMath
import Derived.Test.YtdccjlaneobldaaDoorRefSame
import Derived.Test.YtdccjlaneobldaaDoorFY
import Derived.Test.YtdccjlaneobldaaDoorArgs
namespace Go.Proofs.YtdccjlaneobldaaDoor
open Go.RowKit Go.Shelf Rnd

theorem FY.putN {W : World} {B Bg : Nat} {c r t : Int} {sv : Value} {xs : List Nat} (h : FY W B c r t sv xs) {c0 r0 t0 : Int} {a0 : Option Addr} {l0 k0 : Nat} (hx : FBox W Bg c0 (.slice a0 l0 k0) r0 t0) (hB : B ≠ Bg) (c' : Int) (sv' : Value) (r' t' : Int) :
    FY (putF W Bg c' sv' r' t') B c r t sv xs := ⟨h.x.putO hB _ _ _ _, h.f.putF hx _ _ _ _⟩
/-- What all calls answer where all goes. -/
theorem all_good {f : Nat} {args : Array Value} {w : World} {c r t : Int} {xs l ys : List Nat} {n : Nat} (h : AllC f args w c xs r t l) (hc : checkB c xs r t = true) (ha : allR c r l xs t = (n, ys, 0)) :
    Calls Tryd.prog f args w fun e w' => (∃ a len cap, e = .returned (.tuple #[fv c (.slice a len cap) r (t + n), .int .i64 (n : Int), .int .i64 0]) ∧ Fls w' (.slice a len cap) ys) ∧ Below w.heap.size w w' := by
  unfold AllC at h
  obtain ⟨e1, e2, e3, e4, e5, e6⟩ := a_yes hc ha
  rw [e1, e2, e3, e4, e5, e6] at h
  exact h

theorem fade_good {f : Nat} {args : Array Value} {w : World} {c r t k : Int} {xs : List Nat} {b : Nat} (h : FadeC f args w c xs r t b k) (he : oE c xs r t b k = 0) : Calls Tryd.prog f args w fun e w' => (∃ a len cap, e = .returned (.tuple #[fv c (.slice a len cap) r (t + k), .int .i64 0]) ∧ Fls w' (.slice a len cap) (fadeN b k.toNat xs)) ∧ Below w.heap.size w w' := by
  unfold FadeC at h
  obtain ⟨e1, e2, e3, e4⟩ := o_yes he
  rw [e1, e2, e3, e4, he] at h
  exact h

/-- What is known on the way. -/
structure Sg (w W : World) (c m t T : Int) (a : Option Addr) (cap : Nat) (B1 : Nat) (v1 : Value) (xs ys : List Nat) : Prop where
  be : Below w.heap.size w W
  f : FY W w.heap.size c m t (.slice a xs.length cap) xs
  g : FY W B1 c m T v1 ys
theorem Sg.below {w W W' : World} {c m t T : Int} {a : Option Addr} {cap B1 : Nat} {v1 : Value} {xs ys : List Nat} (h : Sg w W c m t T a cap B1 v1 xs ys) (hb : Below W.heap.size W W') : Sg w W' c m t T a cap B1 v1 xs ys :=
  ⟨h.be.trans (hb.mono h.be.size), h.f.below hb, h.g.below hb⟩
theorem Sg.putN {w W : World} {c m t T : Int} {a : Option Addr} {cap B1 : Nat} {v1 : Value} {xs ys : List Nat} (h : Sg w W c m t T a cap B1 v1 xs ys) {Bg : Nat} {c0 r0 t0 : Int} {a0 : Option Addr} {l0 k0 : Nat} (hx : FBox W Bg c0 (.slice a0 l0 k0) r0 t0) (h1 : w.heap.size < Bg) (h2 : B1 ≠ Bg) (c' : Int) (sv' : Value) (r' t' : Int) :
    Sg w (putF W Bg c' sv' r' t') c m t T a cap B1 v1 xs ys := ⟨putF_below h.be (by omega) _ _ _ _, h.f.putN hx (by omega) _ _ _ _, h.g.putN hx h2 _ _ _ _⟩

set_option maxRecDepth 100000 in
set_option maxHeartbeats 32000000 in
theorem all_go (hlive : LiveC) (c m t : Int) (sv lv : Value) (cut : Int) (w : World) (hT : Tab w) (h0 : Arg w sv) (h2 : Arg w lv) :
    Calls Tryd.prog 4 #[fv c sv m t, lv, .int .i64 cut] w fun e w' => e = .returned (.bool true) ∧ Below w.heap.size w w' := by
  obtain ⟨a, len, cap, rfl, hmax, hx⟩ := h0
  obtain ⟨la, llen, lcap, rfl, hlmax, hlx⟩ := h2
  have hB : Below w.heap.size w (w.alloc (fcells c (.slice a len cap) m t)) := (Below.refl _ w).alloc (Nat.le_refl _) _
  by_cases g0 : 60 < len
  · have g0' : (60 : Int) < (len : Int) := by omega
    go_enter Tryd.func4, Tryd.ntmps4
    go_wp2_with fail
    refine (hlive _ (hT.below hB)).mono ?_
    rintro e w' ⟨rfl, hb⟩
    go_wp2
    go_ret
    exact ⟨rfl, hB.trans (hb.mono hB.size)⟩
  have g0' : ¬ (60 : Int) < (len : Int) := by omega
  by_cases g1 : 40 < llen
  · have g1' : (40 : Int) < (llen : Int) := by omega
    go_enter Tryd.func4, Tryd.ntmps4
    go_wp2_with fail
    refine (hlive _ (hT.below hB)).mono ?_
    rintro e w' ⟨rfl, hb⟩
    go_wp2
    go_ret
    exact ⟨rfl, hB.trans (hb.mono hB.size)⟩
  have g1' : ¬ (40 : Int) < (llen : Int) := by omega
  obtain ⟨xs, hF, rfl⟩ := hx (by omega)
  obtain ⟨l, hL, rfl⟩ := hlx (by omega)
  clear hx hlx
  obtain ⟨_, _, e, hlcap⟩ := hL.shape
  cases e
  have xF : FY (w.alloc (fcells c (.slice a xs.length cap) m t)) w.heap.size c m t (.slice a xs.length cap) xs := FY.new hF c m t
  have hk1 := all_all c m t _ _ xs l _ (hT.below hB) xF.f (hL.below hB (Nat.le_refl _))
  have hk2 : ∀ W, Below w.heap.size w W → AllC 17 #[fv c (.slice a xs.length cap) m t, .slice la l.length lcap] W c xs m t l := fun W h => rall_all c m t _ _ xs l W (hF.below h (Nat.le_refl _)) (hL.below h (Nat.le_refl _))
  unfold AllC at hk1 hk2
  have HZ : Hid (aE c xs m t l = 0 → checkB c xs m t = true ∧ ∃ ys, allR c m l xs t = (l.length, ys, 0)) := a_zero
  have HY : Hid (∀ ys, checkB c xs m t = true → allR c m l xs t = (l.length, ys, 0) → aC c xs m t l = c ∧ aR c xs m t l = m ∧ aT c xs m t l = t + l.length ∧ aK c xs m t l = l.length ∧ aL c xs m t l = ys ∧ aE c xs m t l = 0) := fun ys h1 h2 => a_yes h1 h2
  generalize aC c xs m t l = C at *
  generalize aR c xs m t l = R at *
  generalize aT c xs m t l = T at *
  generalize aK c xs m t l = K at *
  generalize aE c xs m t l = E at *
  generalize aL c xs m t l = L at *
  go_enter Tryd.func4, Tryd.ntmps4
  go_wp2_with fail
  refine hk1.mono ?_
  rintro e w1 ⟨⟨a1, l1, k1, rfl, h1⟩, hb⟩
  have B := bal2 hB hb (fcells C (.slice a1 l1 k1) R T)
  have yF := xF.step hb (fcells C (.slice a1 l1 k1) R T)
  have y1 := FY.new h1 C R T
  have HW1 : Hid (w.heap.size < w1.heap.size) := (xF.below hb).x.lt
  clear hb h1 hB xF hk1
  have c0 := yF.x.c0
  have c1 := yF.x.c1
  have c2 := yF.x.c2
  have c3 := yF.x.c3
  go_wp2_with fail
  refine (hk2 _ B).mono ?_
  rintro e w2 ⟨⟨a2, l2, k2, rfl, h1⟩, hb⟩
  replace B := bal2 B hb (fcells C (.slice a2 l2 k2) R T)
  replace yF := yF.step hb (fcells C (.slice a2 l2 k2) R T)
  replace y1 := y1.step hb (fcells C (.slice a2 l2 k2) R T)
  have y2 := FY.new h1 C R T
  clear hb h1 c0 c1 c2 c3 hk2
  generalize w1.heap.size = B1 at *
  have c0 := y1.x.c0
  have c1 := y1.x.c1
  have c2 := y1.x.c2
  have c3 := y1.x.c3
  have d0 := y2.x.c0
  have d1 := y2.x.c1
  have d2 := y2.x.c2
  have d3 := y2.x.c3
  have hs := fsame_c C R T _ _ L L _ y1.f y2.f
  rw [allSame_refl] at hs
  go_wp2_with fail
  refine hs.mono ?_
  rintro e w3 ⟨rfl, hb⟩
  replace B := B.trans (hb.mono B.size)
  replace yF := yF.below hb
  replace y1 := y1.below hb
  clear hb c0 c1 c2 c3 d0 d1 d2 d3 hs y2
  by_cases he : E = 0
  case neg =>
    have he' : (E != 0) = true := by simpa using he
    go_wp2_with fail
    refine (hlive _ (hT.below B)).mono ?_
    rintro e w' ⟨rfl, hb⟩
    go_wp2
    go_ret
    exact ⟨rfl, B.trans (hb.mono B.size)⟩
  case pos =>
  obtain ⟨hck, ys, hall⟩ := HZ.out he
  obtain ⟨e1, e2, e3, e4, e5, _⟩ := HY.out ys hck hall
  clear HY HZ
  subst he e1 e2 e3 e4 e5
  by_cases hc0 : cut < 0
  · go_wp2_with fail
    refine (hlive _ (hT.below B)).mono ?_
    rintro e w' ⟨rfl, hb⟩
    go_wp2
    go_ret
    exact ⟨rfl, B.trans (hb.mono B.size)⟩
  by_cases hc1 : (l.length : Int) < cut
  · go_wp2_with fail
    refine (hlive _ (hT.below B)).mono ?_
    rintro e w' ⟨rfl, hb⟩
    go_wp2
    go_ret
    exact ⟨rfl, B.trans (hb.mono B.size)⟩
  obtain ⟨q, rfl⟩ : ∃ q : Nat, cut = (q : Int) := ⟨cut.toNat, by omega⟩
  have hql : q ≤ l.length := by omega
  obtain ⟨⟨ys1, ho1, hck1, ha1, ha2⟩, hfull, hmay⟩ := all_parts hF.1 hck hall q hql
  obtain ⟨v1, hv1, fv1⟩ := slice_take la lcap q l hql hlcap
  obtain ⟨v2, hv2, fv2⟩ := slice_drop la lcap q l hql hlcap
  have S : Sg w w3 C R t (t + l.length) a cap B1 (.slice a1 l1 k1) xs L := ⟨B, yF, y1⟩
  have HP : Hid (checkB C ys1 R (t + q) = true ∧ allR C R (l.take q) xs t = (q, ys1, 0) ∧ allR C R (l.drop q) ys1 (t + q) = (l.length - q, L, 0)) := ⟨hck1, ha1, ha2⟩
  have HCK : Hid (checkB C xs R t = true) := hck
  have HFULL : Hid (t + l.length ≤ 4096) := hfull
  have HMAY : Hid (0 < l.length → mayB (l[0]?.getD 0) = true) := hmay
  have HFV : Hid ((∀ W, Fls W (.slice la l.length lcap) l → Fls W v1 (l.take q)) ∧ (∀ W, Fls W (.slice la l.length lcap) l → Fls W v2 (l.drop q))) := ⟨fv1, fv2⟩
  clear B yF y1 hall hck1 ha1 ha2 hck hfull hmay fv1 fv2
  have hbA : Below w3.heap.size w3 w3.drew := (Below.refl _ _).drew
  have hbB : Below w3.heap.size w3 (w3.alloc (fcells 0 (.slice none 0 0) 0 0)).drew := ((Below.refl _ w3).alloc (Nat.le_refl _) _).drew
  have SA := S.below hbA
  have SB := S.below hbB
  have xB : FBox (w3.alloc (fcells 0 (.slice none 0 0) 0 0)).drew w3.heap.size 0 (.slice none 0 0) 0 0 := (FBox.new w3 _ _ _ _).below ((Below.refl _ _).drew) (Nat.le_refl _)
  have kA := all_good (all_all C R t _ v1 xs (l.take q) w3.drew (hT.below SA.be) SA.f.f (HFV.out.1 _ (hL.below SA.be (Nat.le_refl _)))) HCK.out HP.out.2.1
  have kB := all_good (all_all C R t _ v1 xs (l.take q) _ (hT.below SB.be) SB.f.f (HFV.out.1 _ (hL.below SB.be (Nat.le_refl _)))) HCK.out HP.out.2.1
  have x0 := S.f.x.c0
  have x1 := S.f.x.c1
  have x2 := S.f.x.c2
  have x3 := S.f.x.c3
  have X0 := SB.f.x.c0
  have X1 := SB.f.x.c1
  have X2 := SB.f.x.c2
  have X3 := SB.f.x.c3
  go_wp2_with fail
  go_cut [13, 14, 15] (fun s13 s14 s15 wx => s14 = .int .i64 (q : Int) ∧ s15 = .int .i64 0 ∧ ∃ (Bp : Nat) (a' : Option Addr) (len' cap' : Nat), s13 = .pointer (some ⟨Bp, 0, none⟩) ∧ Sg w wx C R t (t + l.length) a cap B1 (.slice a1 l1 k1) xs L ∧ FY wx Bp C R (t + q) (.slice a' len' cap') ys1)
  case first =>
    go_region_with (first | (go_at_call 16; with_reducible refine kA.mono ?_; rintro e w4 ⟨⟨a', len', cap', rfl, hf⟩, hb4⟩; have S4 := SA.below hb4; clear hb4) | (go_at_call 16; with_reducible refine kB.mono ?_; rintro e w4 ⟨⟨a', len', cap', rfl, hf⟩, hb4⟩; have S4 := SB.below hb4; have x7 := xB.below hb4 (Nat.le_refl _); have r0 := x7.c0; have r1 := x7.c1; have r2 := x7.c2; have r3 := x7.c3; have z0 := x7.fz 0; have z1 := x7.fz 1; have z2 := x7.fz 2; have z3 := x7.fz 3; clear hb4))
    all_goals
      go_wp2_with fail
      go_meet
      first
        | exact ⟨rfl, rfl, w4.heap.size, a', len', cap', rfl, S4.below (bal w4 _), FY.new hf _ _ _⟩
        | exact ⟨rfl, rfl, w3.heap.size, a', len', cap', rfl, S4.putN x7 S.f.x.lt (Nat.ne_of_lt S.g.x.lt) C (.slice a' len' cap') R (t + q), ⟨x7.put C (.slice a' len' cap') R (t + q), hf.putF x7 C (.slice a' len' cap') R (t + q)⟩⟩
  case rest =>
  obtain ⟨rfl, rfl, Bp, ap, lp, cp, rfl, S5, P5⟩ := hcut
  clear x0 x1 x2 x3 X0 X1 X2 X3 S SA SB xB kA kB hbA hbB
  obtain ⟨K2, HK2⟩ : ∃ K2 : Int, Hid (((l.length - q : Nat) : Int) = K2) := ⟨_, rfl⟩
  have hadd : (q : Int) + K2 = (l.length : Int) := by have := HK2.out; omega
  have HT2 : Hid (t + q + K2 = t + l.length) := by show _ = _; omega
  generalize wc = W at *
  have hbA : Below W.heap.size W W.drew := (Below.refl _ _).drew
  have hbB : Below W.heap.size W (W.alloc (fcells 0 (.slice none 0 0) 0 0)).drew := ((Below.refl _ W).alloc (Nat.le_refl _) _).drew
  have SA := S5.below hbA
  have SB := S5.below hbB
  have PA := P5.below hbA
  have PB := P5.below hbB
  have xB : FBox (W.alloc (fcells 0 (.slice none 0 0) 0 0)).drew W.heap.size 0 (.slice none 0 0) 0 0 := (FBox.new W _ _ _ _).below ((Below.refl _ _).drew) (Nat.le_refl _)
  have kA := all_good (all_all C R (t + q) _ v2 ys1 (l.drop q) W.drew (hT.below SA.be) PA.f (HFV.out.2 _ (hL.below SA.be (Nat.le_refl _)))) HP.out.1 HP.out.2.2
  have kB := all_good (all_all C R (t + q) _ v2 ys1 (l.drop q) _ (hT.below SB.be) PB.f (HFV.out.2 _ (hL.below SB.be (Nat.le_refl _)))) HP.out.1 HP.out.2.2
  rw [HK2.out, HT2.out] at kA kB
  have x0 := P5.x.c0
  have x1 := P5.x.c1
  have x2 := P5.x.c2
  have x3 := P5.x.c3
  have X0 := PB.x.c0
  have X1 := PB.x.c1
  have X2 := PB.x.c2
  have X3 := PB.x.c3
  go_wp2_with fail
  go_cut [16, 17, 18] (fun s16 s17 s18 wx => s17 = .int .i64 K2 ∧ s18 = .int .i64 0 ∧ ∃ (Bp : Nat) (a' : Option Addr) (len' cap' : Nat), s16 = .pointer (some ⟨Bp, 0, none⟩) ∧ Sg w wx C R t (t + l.length) a cap B1 (.slice a1 l1 k1) xs L ∧ FY wx Bp C R (t + l.length) (.slice a' len' cap') L)
  case first =>
    go_region_with (first | (go_at_call 16; with_reducible refine kA.mono ?_; rintro e w4 ⟨⟨a', len', cap', rfl, hf⟩, hb4⟩; have S4 := SA.below hb4; clear hb4) | (go_at_call 16; with_reducible refine kB.mono ?_; rintro e w4 ⟨⟨a', len', cap', rfl, hf⟩, hb4⟩; have S4 := SB.below hb4; have x7 := xB.below hb4 (Nat.le_refl _); have r0 := x7.c0; have r1 := x7.c1; have r2 := x7.c2; have r3 := x7.c3; have z0 := x7.fz 0; have z1 := x7.fz 1; have z2 := x7.fz 2; have z3 := x7.fz 3; clear hb4))
    all_goals
      go_wp2_with fail
      go_meet
      first
        | exact ⟨rfl, rfl, w4.heap.size, a', len', cap', rfl, S4.below (bal w4 _), FY.new hf _ _ _⟩
        | exact ⟨rfl, rfl, W.heap.size, a', len', cap', rfl, S4.putN x7 S5.f.x.lt (Nat.ne_of_lt S5.g.x.lt) C (.slice a' len' cap') R (t + l.length), ⟨x7.put C (.slice a' len' cap') R (t + l.length), hf.putF x7 C (.slice a' len' cap') R (t + l.length)⟩⟩
  case rest =>
  obtain ⟨rfl, rfl, Bq, aq, lq, cq, rfl, S, P6⟩ := hcut
  clear x0 x1 x2 x3 X0 X1 X2 X3 S5 P5 SA SB PA PB xB kA kB hbA hbB
  have x0 := S.g.x.c0
  have x1 := S.g.x.c1
  have x2 := S.g.x.c2
  have x3 := S.g.x.c3
  have X0 := P6.x.c0
  have X1 := P6.x.c1
  have X2 := P6.x.c2
  have X3 := P6.x.c3
  have hs := fsame_c C R (t + l.length) _ _ L L _ P6.f S.g.f
  rw [allSame_refl] at hs
  go_wp2_with fail
  refine hs.mono ?_
  rintro e w5 ⟨rfl, hb⟩
  replace S := S.below hb
  clear hb x0 x1 x2 x3 X0 X1 X2 X3 hs P6 HT2
  by_cases hl0 : l.length = 0
  · have hl0' : ((l.length : Int) == 0) = true := by simp [hl0]
    go_wp2_with fail
    refine (hlive _ (hT.below S.be)).mono ?_
    rintro e w' ⟨rfl, hb⟩
    replace S := S.below hb
    go_wp2
    go_ret
    exact ⟨rfl, S.be⟩
  have hl0' : ((l.length : Int) == 0) = false := by simp [hl0]
  obtain ⟨i0, hi, hz0, hz1, hz2⟩ := info_parts Tryd.infoF
  obtain ⟨lb, loff, _, e, hlb, _, hcs⟩ := hL.cell (by omega)
  cases e
  have HMB := HMAY.out (by omega)
  have hcw : Hid (w.cell? ⟨lb, loff, none⟩ = some (fl (l[0]?.getD 0))) := hcs 0 (by omega)
  have hok := okF_getD hL.1 0
  obtain ⟨b, hbb⟩ : ∃ b : Nat, b = l[0]?.getD 0 := ⟨_, rfl⟩
  have HBB : Hid (l[0]?.getD 0 = b) := hbb.symm
  clear hbb
  rw [HBB.out] at HMB hcw hok
  have HMB' : Hid (mayB b = true) := HMB
  clear hcs HMB
  obtain ⟨Z, HZZ⟩ : ∃ Z, Hid (madeCells (Value.float .f64 0).cells (l.length * i0.size) = Z) := ⟨_, rfl⟩
  have hmk : ∀ w' : World, (Instr.makeSlice 22 (.int .i64 0) (.int .i64 (l.length : Int))).run Tryd.prog w' = .ok (.slice (some ⟨w'.heap.size, 0, none⟩) 0 l.length) (w'.alloc (.cells Z 25)) := by
    intro w'
    have h := run_make (P := Tryd.prog) w' 22 25 i0 (.float .f64 0) Tryd.underlying22 hi hz0 .i64 .i64 0 (l.length : Int) (Int.le_refl _) (by omega) (by rw [hz2]; omega) (by omega)
    simp only [Int.toNat_zero, Int.toNat_natCast] at h
    rw [HZZ.out] at h
    exact h
  have hrow0 : World.ownsRow (w5.alloc (.cells Z 25)) w5.heap.size 25 1 (.slice (some ⟨w5.heap.size, 0, none⟩) 0 l.length) 0 [] := World.ownsRow_made w5 Z l.length (Nat.le_refl _) (by unfold maxLen; omega) (by rw [← HZZ.out, size_madeCells, hz1])
  have hb5 : Below w5.heap.size w5 (w5.alloc (.cells Z 25)) := (Below.refl _ w5).alloc (Nat.le_refl _) _
  have HR0 : Hid (World.ownsRow (w5.alloc (.cells Z 25)) w5.heap.size 25 1 (.slice (some ⟨w5.heap.size, 0, none⟩) 0 l.length) 0 ((List.replicate 0 b).map fl)) := hrow0
  clear hrow0
  go_wp2_with fail
  go_loopw [19, 20] (fun v i wr => ∃ k : Nat, k ≤ l.length ∧ i = .int .i64 (k : Int) ∧ Hid (wr.ownsRow w5.heap.size 25 1 v k ((List.replicate k b).map fl)) ∧ Below w5.heap.size w5 wr) (fun _ i _ => l.length - (intOf i).toNat)
  case atStart => exact ⟨0, Nat.zero_le _, by simp, HR0, hb5⟩
  case round =>
    clear HR0 hb5 hmk
    obtain ⟨k, hk, rfl, HO, B5⟩ := hrel
    have S5 := S.below B5
    by_cases hlt : k < l.length
    · have hlt' : (k : Int) < (l.length : Int) := by omega
      have hcell := (S5.be.cell (p := ⟨lb, loff, none⟩) hlb).trans hcw.out
      have hl1 : (0 : Int) < (l.length : Int) := by omega
      have hrow := HO.out
      have hown : ∀ q, Value.ownBlock u19 = some q → w5.heap.size ≤ q := fun q hq => own_ge HO.out hq
      go_wp2_with (at_builtin; refine wpList_append_own _ rfl _ _ 22 rfl w5.heap.size 25 i0 (.float .f64 0) 1 8 Tryd.underlying22 hi hz0 hz1 hz2 rfl (by decide) u19 _ _ rfl (hrow.alloc _) ⟨wr.heap.size, 0, none⟩ 1 1 [fl b] rfl rfl (cell_one_new _ _ _) (by simp [Value.oneCell']) (by unfold maxLen; omega) (by omega) (by have := B5.size; simp; omega) ?_; intro v' w4 hown' hgrow _)
      have B6 : Below w5.heap.size w5 w4 := Below.grown (B5.alloc B5.size _) hgrow (by have := B5.size; simp; omega) (fun q e => hown q e)
      have HO6 : Hid (w4.ownsRow w5.heap.size 25 1 v' (k + 1) ((List.replicate (k + 1) b).map fl)) := by
        show World.ownsRow _ _ _ _ _ _ _
        rw [List.replicate_succ', List.map_append]
        exact hown'
      go_roundw
      case rel => exact ⟨k + 1, by omega, by go_num, HO6, B6⟩
      case measure => simp [intOf]; omega
    · obtain rfl : k = l.length := by omega
      have fS := own_fls HO.out (fun x hx => by rw [List.eq_of_mem_replicate hx]; exact hok) (by simp) (by omega)
      have kS := all_good (all_all C R t _ u19 xs (List.replicate l.length b) wr (hT.below S5.be) S5.f.f fS) HCK.out (allR_same HMB'.out l.length xs t hF.1 HCK.out HFULL.out)
      clear HO fS
      have x0 := S5.f.x.c0
      have x1 := S5.f.x.c1
      have x2 := S5.f.x.c2
      have x3 := S5.f.x.c3
      go_wp2_with fail
      refine kS.mono ?_
      rintro e w6 ⟨⟨a6, l6, k6, rfl, hf6⟩, hb6⟩
      have y6 := FY.new hf6 C R (t + l.length)
      have S6 := (S5.below hb6).below (bal w6 (fcells C (.slice a6 l6 k6) R (t + l.length)))
      clear S S5 hb6 hf6 kS x0 x1 x2 x3 B5
      go_wp2_with fail
      generalize w6.heap.size = B6 at *
      generalize w6.alloc (fcells C (.slice a6 l6 k6) R (t + l.length)) = W at *
      have hbA : Below W.heap.size W W.drew := (Below.refl _ _).drew
      have hbB : Below W.heap.size W (W.alloc (fcells 0 (.slice none 0 0) 0 0)).drew := ((Below.refl _ W).alloc (Nat.le_refl _) _).drew
      have SA := S6.below hbA
      have SB := S6.below hbB
      have YA := y6.below hbA
      have YB := y6.below hbB
      have xB : FBox (W.alloc (fcells 0 (.slice none 0 0) 0 0)).drew W.heap.size 0 (.slice none 0 0) 0 0 := (FBox.new W _ _ _ _).below ((Below.refl _ _).drew) (Nat.le_refl _)
      have hE : oE C xs R t b (l.length : Int) = 0 := oE_yes HCK.out (by omega) HMB'.out (by have := HFULL.out; omega)
      have kA := fade_good (often_all C R t l.length b _ xs W.drew (hT.below SA.be) SA.f.f hok) hE
      have kB := fade_good (often_all C R t l.length b _ xs _ (hT.below SB.be) SB.f.f hok) hE
      rw [Int.toNat_natCast] at kA kB
      have hcell := (S6.be.cell (p := ⟨lb, loff, none⟩) hlb).trans hcw.out
      have hcellB := (SB.be.cell (p := ⟨lb, loff, none⟩) hlb).trans hcw.out
      have hl1 : (0 : Int) < (l.length : Int) := by omega
      have x0 := S6.f.x.c0
      have x1 := S6.f.x.c1
      have x2 := S6.f.x.c2
      have x3 := S6.f.x.c3
      have X0 := SB.f.x.c0
      have X1 := SB.f.x.c1
      have X2 := SB.f.x.c2
      have X3 := SB.f.x.c3
      clear hE
      go_cut [24, 25] (fun s24 s25 wx => s25 = .int .i64 0 ∧ ∃ (Bp : Nat) (a' : Option Addr) (len' cap' : Nat), s24 = .pointer (some ⟨Bp, 0, none⟩) ∧ Sg w wx C R t (t + l.length) a cap B1 (.slice a1 l1 k1) xs L ∧ FY wx B6 C R (t + l.length) (.slice a6 l6 k6) (fadeN b l.length xs) ∧ FY wx Bp C R (t + l.length) (.slice a' len' cap') (fadeN b l.length xs))
      case first =>
        go_region_with (first | (go_at_call 11; with_reducible refine kA.mono ?_; rintro e w4 ⟨⟨a', len', cap', rfl, hf⟩, hb4⟩; have S4 := SA.below hb4; have Y4 := YA.below hb4; clear hb4) | (go_at_call 11; with_reducible refine kB.mono ?_; rintro e w4 ⟨⟨a', len', cap', rfl, hf⟩, hb4⟩; have S4 := SB.below hb4; have Y4 := YB.below hb4; have x7 := xB.below hb4 (Nat.le_refl _); have r0 := x7.c0; have r1 := x7.c1; have r2 := x7.c2; have r3 := x7.c3; have z0 := x7.fz 0; have z1 := x7.fz 1; have z2 := x7.fz 2; have z3 := x7.fz 3; clear hb4))
        all_goals
          go_wp2_with fail
          go_meet
          first
            | exact ⟨rfl, w4.heap.size, a', len', cap', rfl, S4.below (bal w4 _), Y4.below (bal w4 _), FY.new hf _ _ _⟩
            | exact ⟨rfl, W.heap.size, a', len', cap', rfl, S4.putN x7 S6.f.x.lt (Nat.ne_of_lt S6.g.x.lt) C (.slice a' len' cap') R (t + l.length), Y4.putN x7 (Nat.ne_of_lt y6.x.lt) C (.slice a' len' cap') R (t + l.length), ⟨x7.put C (.slice a' len' cap') R (t + l.length), hf.putF x7 C (.slice a' len' cap') R (t + l.length)⟩⟩
      case rest =>
        obtain ⟨rfl, Bb, ab, lnb, cb, rfl, S8, Y8, Z8⟩ := hcut
        clear x0 x1 x2 x3 X0 X1 X2 X3 SA SB YA YB xB kA kB hbA hbB hcell hcellB S6 y6
        have x0 := Y8.x.c0
        have x1 := Y8.x.c1
        have x2 := Y8.x.c2
        have x3 := Y8.x.c3
        have X0 := Z8.x.c0
        have X1 := Z8.x.c1
        have X2 := Z8.x.c2
        have X3 := Z8.x.c3
        have hs := fsame_c C R (t + l.length) _ _ (fadeN b l.length xs) (fadeN b l.length xs) _ Y8.f Z8.f
        rw [allSame_refl] at hs
        go_wp2_with fail
        refine hs.mono ?_
        rintro e w9 ⟨rfl, hb⟩
        replace S8 := S8.below hb
        clear hb x0 x1 x2 x3 X0 X1 X2 X3 hs Y8 Z8
        go_wp2_with fail
        refine (hlive _ (hT.below S8.be)).mono ?_
        rintro e w' ⟨rfl, hb⟩
        replace S8 := S8.below hb
        go_wp2
        go_ret
        exact ⟨rfl, S8.be⟩
end Go.Proofs.YtdccjlaneobldaaDoor
