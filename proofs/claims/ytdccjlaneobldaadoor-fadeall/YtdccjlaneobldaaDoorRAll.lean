/- levellingref12.All. -/
import Derived.Deep.RegionWith
import Derived.Deep.CutRange
import Derived.Test.YtdccjlaneobldaaDoorRFactor
import Derived.Test.YtdccjlaneobldaaDoorAll
namespace Go.Proofs.YtdccjlaneobldaaDoor
open Go.RowKit Go.Shelf Rnd

/-- Another box is stored. -/
theorem Sa.putN {w W : World} {c r t : Int} {a : Option Addr} {len cap : Nat} {ys : List Nat} (h : Sa w W c r t a len cap ys) {Bg : Nat} {c0 r0 t0 : Int} {a0 : Option Addr} {l0 k0 : Nat} (hx : FBox W Bg c0 (.slice a0 l0 k0) r0 t0) (hB : w.heap.size + 1 < Bg) (c' : Int) (sv' : Value) (r' t' : Int) :
    Sa w (putF W Bg c' sv' r' t') c r t a len cap ys :=
  ⟨putF_below h.be (by omega) _ _ _ _, h.bf.putO (by omega) _ _ _ _, h.br.putO (by omega) _ _ _ _, h.f.putF hx _ _ _ _⟩

set_option maxRecDepth 100000 in
set_option maxHeartbeats 8000000 in
theorem rall_yes (c r t : Int) (sv lv : Value) (xs l : List Nat) (w : World) (hF : Fls w sv xs) (hL : Fls w lv l) (hck : checkB c xs r t = true) :
    Calls Tryd.prog 17 #[fv c sv r t, lv] w fun e w' => (∃ i ys E, allR c r l xs t = (i, ys, E) ∧ ∃ a len cap, e = .returned (.tuple #[fv c (.slice a len cap) r (t + i), .int .i64 (i : Int), .int .i64 E]) ∧ Fls w' (.slice a len cap) ys) ∧ Below w.heap.size w w' := by
  obtain ⟨n, rfl, hn1, hn6, hlen⟩ := check_len hck
  have hl := hF.2.1
  have hll := hL.2.1
  have hpos : 0 < xs.length := by have := place_lt (r := 0) hn6 (by omega) hlen; omega
  obtain ⟨sa, scap, rfl, hcap⟩ := hF.shape
  obtain ⟨la, lcap, rfl, hlcap⟩ := hL.shape
  have hB : Below w.heap.size w ((w.alloc (fcells n (.slice sa xs.length scap) r t)).alloc (fcells 0 (.slice none 0 0) 0 0)) := ((Below.refl _ w).alloc (Nat.le_refl _) _).alloc (by simp) _
  have bF0 : FBox ((w.alloc (fcells n (.slice sa xs.length scap) r t)).alloc (fcells 0 (.slice none 0 0) 0 0)) w.heap.size n (.slice sa xs.length scap) r t := (FBox.new w _ _ _ _).below ((Below.refl _ _).alloc (Nat.le_refl _) _) (Nat.le_refl _)
  have bR0 : FBox ((w.alloc (fcells n (.slice sa xs.length scap) r t)).alloc (fcells 0 (.slice none 0 0) 0 0)) (w.heap.size + 1) 0 (.slice none 0 0) 0 0 := by
    have h := FBox.new (w.alloc (fcells n (.slice sa xs.length scap) r t)) 0 (.slice none 0 0) 0 0
    rw [World.size_alloc] at h; exact h
  have HM : Mid n r l xs t 0 xs := Mid.start hF.1 hck
  have HCK : Hid (checkB n xs r t = true) := hck
  clear hck hlen
  go_enter Tryd.func17, Tryd.ntmps17
  go_wp2_with fail
  refine (rcheck_c n r t _ xs _ (hF.below hB (Nat.le_refl _))).mono ?_
  rw [HCK.out]
  rintro e w1 ⟨rfl, hb1⟩
  have S : Sa w w1 n r t sa xs.length scap xs := ⟨hB.trans (hb1.mono hB.size), bF0.below hb1 (Nat.le_refl _), bR0.below hb1 (Nat.le_refl _), (hF.below hB (Nat.le_refl _)).below hb1 (Nat.le_refl _)⟩
  clear hb1 bF0 bR0 hB
  go_wp2_with fail
  go_loopw [7] (fun i wr => ∃ (k : Nat) (ys : List Nat) (a : Option Addr) (ln cp : Nat), k ≤ l.length ∧ i = .int .i64 (k : Int) ∧ Mid n r l xs t k ys ∧ Sa w wr n r (t + k) a ln cp ys) (fun i _ => l.length - (intOf i).toNat)
  case atStart => exact ⟨0, xs, _, _, _, Nat.zero_le _, by simp, HM, by simpa using S⟩
  case round =>
    clear S HM
    obtain ⟨k, ys, a, ln, cp, hk, rfl, M, S⟩ := hrel
    by_cases hlt : k < l.length
    · have hlt' : (k : Int) < (l.length : Int) := by omega
      obtain ⟨lb, loff, lcap', e, hlb, hc', hcs⟩ := hL.cell (by omega)
      cases e
      have hcw : Hid (w.cell? ⟨lb, loff + k, none⟩ = some (fl (l[k]?.getD 0))) := hcs k hlt
      have hck := (S.be.cell (p := ⟨lb, loff + k, none⟩) hlb).trans (hcs k hlt)
      have hok := okF_getD hL.1 k
      obtain ⟨x, HX⟩ : ∃ x, Hid (l[k]?.getD 0 = x) := ⟨_, rfl⟩
      rw [HX.out] at hck hok hcw
      clear hcs
      have hbA : Below wr.heap.size wr wr.drew := (Below.refl _ _).drew
      have hbB : Below wr.heap.size wr (wr.alloc (fcells 0 (.slice none 0 0) 0 0)).drew := ((Below.refl _ wr).alloc (Nat.le_refl _) _).drew
      have SA := S.below hbA
      have SB := S.below hbB
      have xB : FBox (wr.alloc (fcells 0 (.slice none 0 0) 0 0)).drew wr.heap.size 0 (.slice none 0 0) 0 0 := (FBox.new wr _ _ _ _).below ((Below.refl _ _).drew) (Nat.le_refl _)
      have kA := rfactor_all n r (t + k) x _ ys wr.drew SA.f hok
      have kB := rfactor_all n r (t + k) x _ ys _ SB.f hok
      unfold FadeC at kA kB
      have HSZ : Hid (w.heap.size + 1 < wr.heap.size) := S.br.lt
      have M1 : oE n ys r (t + k) x 1 = 0 → Mid n r l xs t (k + 1) (fadeL x ys) := fun h => by
        have := M.step hlt (by rw [HX.out]; exact h)
        rwa [HX.out] at this
      have M2 : oE n ys r (t + k) x 1 ≠ 0 → allR n r l xs t = (k, ys, oE n ys r (t + k) x 1) := fun h => by
        have := M.stop hlt (by rw [HX.out]; exact h)
        rwa [HX.out] at this
      have MY := o_yes (c := (n : Int)) (xs := ys) (r := r) (t := t + k) (b := x) (k := 1)
      have e5 : fadeN x (1 : Int).toNat ys = fadeL x ys := rfl
      rw [e5] at MY
      generalize oC n ys r (t + k) x 1 = C at *
      generalize oR n ys r (t + k) x 1 = R at *
      generalize oT n ys r (t + k) x 1 = T at *
      generalize oE n ys r (t + k) x 1 = E at *
      generalize oL n ys r (t + k) x 1 = L at *
      have HM1 : Hid (E = 0 → Mid n r l xs t (k + 1) (fadeL x ys)) := M1
      have HM2 : Hid (E ≠ 0 → allR n r l xs t = (k, ys, E)) := M2
      have HMY : Hid (E = 0 → C = n ∧ R = r ∧ T = t + k + 1 ∧ L = fadeL x ys) := MY
      have x0 := S.bf.c0
      have x1 := S.bf.c1
      have x2 := S.bf.c2
      have x3 := S.bf.c3
      have X0 := SB.bf.c0
      have X1 := SB.bf.c1
      have X2 := SB.bf.c2
      have X3 := SB.bf.c3
      have X4 := (SB.be.cell (p := ⟨lb, loff + k, none⟩) hlb).trans hcw.out
      clear e5 M1 M2 MY
      go_wp2_with fail
      go_cut [8, 9] from 14 to 34 (fun s8 s9 wx => s9 = .int .i64 E ∧ ∃ (Bg : Nat) (a' : Option Addr) (len' cap' : Nat), s8 = .pointer (some ⟨Bg, 0, none⟩) ∧ w.heap.size + 1 < Bg ∧ Sa w wx n r (t + k) a ln cp ys ∧ FBox wx Bg C (.slice a' len' cap') R T ∧ Fls wx (.slice a' len' cap') L)
      case first =>
        go_region_with (first | (go_at_call 10; with_reducible refine kA.mono ?_; rintro e w4 ⟨⟨a', len', cap', rfl, hf⟩, hb4⟩; have S4 := SA.below hb4; clear hb4) | (go_at_call 10; with_reducible refine kB.mono ?_; rintro e w4 ⟨⟨a', len', cap', rfl, hf⟩, hb4⟩; have S4 := SB.below hb4; have x7 := xB.below hb4 (Nat.le_refl _); have r0 := x7.c0; have r1 := x7.c1; have r2 := x7.c2; have r3 := x7.c3; have z0 := x7.fz 0; have z1 := x7.fz 1; have z2 := x7.fz 2; have z3 := x7.fz 3; clear hb4))
        all_goals
          go_wp2_with fail
          go_meet
          first
            | exact ⟨rfl, w4.heap.size, a', len', cap', rfl, S4.br.lt, S4.below ((Below.refl _ w4).alloc (Nat.le_refl _) _), FBox.new w4 _ _ _ _, hf.below ((Below.refl _ w4).alloc (Nat.le_refl _) _) (Nat.le_refl _)⟩
            | exact ⟨rfl, wr.heap.size, a', len', cap', rfl, HSZ.out, S4.putN x7 HSZ.out C (.slice a' len' cap') R T, x7.put C (.slice a' len' cap') R T, hf.putF x7 C (.slice a' len' cap') R T⟩
      case rest =>
        obtain ⟨rfl, Bg, a', len', cap', rfl, hBg, S5, G5, hf⟩ := hcut
        clear X0 X1 X2 X3 X4 x0 x1 x2 x3 S SA SB xB kA kB hbA hbB HSZ
        by_cases he : E = 0
        · have M3 := HM1.out he
          obtain ⟨e1, e2, e3, e4⟩ := HMY.out he
          subst he e1 e2 e3 e4
          have S6 := S5.put (c' := n) (r' := R) (t' := t + k + 1) hf
          unfold putF at S6
          have g0 := G5.c0
          have g1 := G5.c1
          have g2 := G5.c2
          have g3 := G5.c3
          have y0 := S5.bf.c0
          have y1 := S5.bf.c1
          have y2 := S5.bf.c2
          have y3 := S5.bf.c3
          have z0 := S5.bf.fz 0
          have z1 := S5.bf.fz 1
          have z2 := S5.bf.fz 2
          have z3 := S5.bf.fz 3
          go_wp2_with fail
          go_roundw
          case rel => exact ⟨k + 1, fadeL x ys, a', len', cap', by omega, by go_num, M3, by rw [show t + ((k + 1 : Nat) : Int) = t + k + 1 by omega]; exact S6⟩
          case measure => simp [intOf]; omega
        · have M3 := HM2.out he
          have he' : (E != 0) = true := by simpa using he
          have y0 := S5.bf.c0
          have y1 := S5.bf.c1
          have y2 := S5.bf.c2
          have y3 := S5.bf.c3
          have r0 := S5.br.c0
          have r1 := S5.br.c1
          have r2 := S5.br.c2
          have r3 := S5.br.c3
          have z0 := S5.br.fz 0
          have z1 := S5.br.fz 1
          have z2 := S5.br.fz 2
          have z3 := S5.br.fz 3
          have b7 := S5.br.put n (.slice a ln cp) r (t + k)
          have hB7 := putF_below S5.be (B := w.heap.size + 1) (by omega) n (.slice a ln cp) r (t + k)
          have hF7 := S5.f.putF S5.br n (.slice a ln cp) r (t + k)
          unfold putF at b7 hB7 hF7
          go_wp2_with fail
          exact bodyPost_ret_by (v := .tuple #[fv (n : Int) (.slice a ln cp) r (t + k), .int .i64 (k : Int), .int .i64 E]) (all_results rfl b7 rfl rfl rfl) rfl ⟨⟨k, ys, E, M3, a, ln, cp, rfl, hF7⟩, hB7⟩
    · obtain rfl : k = l.length := by omega
      have M3 := M.done
      have x0 := S.bf.c0
      have x1 := S.bf.c1
      have x2 := S.bf.c2
      have x3 := S.bf.c3
      have r0 := S.br.c0
      have r1 := S.br.c1
      have r2 := S.br.c2
      have r3 := S.br.c3
      have z0 := S.br.fz 0
      have z1 := S.br.fz 1
      have z2 := S.br.fz 2
      have z3 := S.br.fz 3
      have b7 := S.br.put n (.slice a ln cp) r (t + l.length)
      have hB7 := putF_below S.be (B := w.heap.size + 1) (by omega) n (.slice a ln cp) r (t + l.length)
      have hF7 := S.f.putF S.br n (.slice a ln cp) r (t + l.length)
      unfold putF at b7 hB7 hF7
      go_wp2_with fail
      exact bodyPost_ret_by (v := .tuple #[fv (n : Int) (.slice a ln cp) r (t + l.length), .int .i64 (l.length : Int), .int .i64 0]) (all_results rfl b7 rfl rfl rfl) rfl ⟨⟨l.length, ys, 0, M3, a, ln, cp, rfl, hF7⟩, hB7⟩

set_option maxRecDepth 100000 in
set_option maxHeartbeats 2000000 in
theorem rall_no (c r t : Int) (sv lv : Value) (xs l : List Nat) (w : World) (hF : Fls w sv xs) (hL : Fls w lv l) (hck : checkB c xs r t = false) :
    Calls Tryd.prog 17 #[fv c sv r t, lv] w fun e w' => e = .returned (.tuple #[fv 0 (.slice none 0 0) 0 0, .int .i64 0, .int .i64 1]) ∧ Below w.heap.size w w' := by
  obtain ⟨sa, scap, rfl, hcap⟩ := hF.shape
  obtain ⟨la, lcap, rfl, hlcap⟩ := hL.shape
  have hB : Below w.heap.size w ((w.alloc (fcells c (.slice sa xs.length scap) r t)).alloc (fcells 0 (.slice none 0 0) 0 0)) := ((Below.refl _ w).alloc (Nat.le_refl _) _).alloc (by simp) _
  have bR0 : FBox ((w.alloc (fcells c (.slice sa xs.length scap) r t)).alloc (fcells 0 (.slice none 0 0) 0 0)) (w.heap.size + 1) 0 (.slice none 0 0) 0 0 := by
    have h := FBox.new (w.alloc (fcells c (.slice sa xs.length scap) r t)) 0 (.slice none 0 0) 0 0
    rw [World.size_alloc] at h; exact h
  have HCK : Hid (checkB c xs r t = false) := hck
  clear hck
  go_enter Tryd.func17, Tryd.ntmps17
  go_wp2_with fail
  refine (rcheck_c c r t _ xs _ (hF.below hB (Nat.le_refl _))).mono ?_
  rw [HCK.out]
  rintro e w1 ⟨rfl, hb1⟩
  have bR1 := bR0.below hb1 (Nat.le_refl _)
  have B1 := hB.trans (hb1.mono hB.size)
  have r0 := bR1.c0
  have r1 := bR1.c1
  have r2 := bR1.c2
  have r3 := bR1.c3
  have z0 := bR1.fz 0
  have z1 := bR1.fz 1
  have z2 := bR1.fz 2
  have z3 := bR1.fz 3
  have b7 := bR1.put 0 (.slice none 0 0) 0 0
  have hB7 := putF_below B1 (B := w.heap.size + 1) (by omega) 0 (.slice none 0 0) 0 0
  unfold putF at b7 hB7
  go_wp2_with fail
  exact bodyPost_ret_by (v := .tuple #[fv 0 (.slice none 0 0) 0 0, .int .i64 0, .int .i64 1]) (all_results rfl b7 rfl rfl rfl) rfl ⟨rfl, hB7⟩

theorem rall_all (c r t : Int) (sv lv : Value) (xs l : List Nat) (w : World) (hF : Fls w sv xs) (hL : Fls w lv l) : AllC 17 #[fv c sv r t, lv] w c xs r t l := by
  unfold AllC
  cases hck : checkB c xs r t with
  | true =>
    refine (rall_yes c r t sv lv xs l w hF hL hck).mono ?_
    rintro e w' ⟨⟨i, ys, E, h, a, len, cap, rfl, hf⟩, hb⟩
    obtain ⟨e1, e2, e3, e4, e5, e6⟩ := a_yes hck h
    rw [e1, e2, e3, e4, e5, e6]
    exact ⟨⟨_, _, _, rfl, hf⟩, hb⟩
  | false =>
    obtain ⟨e1, e2, e3, e4, e5, e6⟩ := a_no (l := l) hck
    rw [e1, e2, e3, e4, e5, e6]
    refine (rall_no c r t sv lv xs l w hF hL hck).mono ?_
    rintro e w' ⟨rfl, hb⟩
    exact ⟨⟨_, _, _, rfl, Fls.nil _⟩, hb⟩
end Go.Proofs.YtdccjlaneobldaaDoor
