/- fade.All. -/
import Derived.Test.YtdccjlaneobldaaDoorAMath
namespace Go.Proofs.YtdccjlaneobldaaDoor
open Go.RowKit Go.Shelf Rnd

/-- What is known on the way: of two boxes and a list. -/
structure Sa (w W : World) (c r t : Int) (a : Option Addr) (len cap : Nat) (ys : List Nat) : Prop where
  be : Below w.heap.size w W
  bf : FBox W w.heap.size c (.slice a len cap) r t
  br : FBox W (w.heap.size + 1) 0 (.slice none 0 0) 0 0
  f : Fls W (.slice a len cap) ys
theorem Sa.below {w W W' : World} {c r t : Int} {a : Option Addr} {len cap : Nat} {ys : List Nat} (h : Sa w W c r t a len cap ys) (hb : Below W.heap.size W W') : Sa w W' c r t a len cap ys :=
  ⟨h.be.trans (hb.mono h.be.size), h.bf.below hb (Nat.le_refl _), h.br.below hb (Nat.le_refl _), h.f.below hb (Nat.le_refl _)⟩
/-- The box of f is stored anew. -/
theorem Sa.put {w W : World} {c r t c' r' t' : Int} {a a' : Option Addr} {len cap len' cap' : Nat} {ys ys' : List Nat} (h : Sa w W c r t a len cap ys) (hf : Fls W (.slice a' len' cap') ys') :
    Sa w (putF W w.heap.size c' (.slice a' len' cap') r' t') c' r' t' a' len' cap' ys' :=
  ⟨putF_below h.be (Nat.le_refl _) _ _ _ _, h.bf.put _ _ _ _, h.br.putO (by omega) _ _ _ _, hf.putF h.bf _ _ _ _⟩

theorem results_cell_two {fn : Func} {p u x : Tmp} {ty : TypeId} (h : fn.results = #[.cell p ty, .tmp u, .tmp x]) (tmps : Array Value) (P : Program) (w : World) :
    (results fn tmps).run P w =
      ((asAddr (tmps.getD p undef)).run P w).andThen fun a w₁ => ((loadVar ty a).run P w₁).andThen fun v w₂ => .ok (.tuple #[v, tmps.getD u undef, tmps.getD x undef]) w₂ := by
  simp only [results, h]
  simp [Sem.run_bind, Result.andThen]
theorem all_results {fn : Func} (hfn : fn.results = #[.cell 4 24, .tmp 5, .tmp 6]) {W : World} {B : Nat} {c r t : Int} {sv : Value} (h : FBox W B c sv r t) {tmps : Array Value} {n e : Int} (h4 : tmps.getD 4 undef = .pointer (some ⟨B, 0, none⟩)) (h5 : tmps.getD 5 undef = .int .i64 n) (h6 : tmps.getD 6 undef = .int .i64 e) :
    (results fn tmps).run Tryd.prog W = .ok (.tuple #[fv c sv r t, .int .i64 n, .int .i64 e]) W := by
  have k0 := h.c0
  have k1 := h.c1
  have k2 := h.c2
  have k3 := h.c3
  rw [results_cell_two hfn, h4, h5, h6]
  simp [go_sem, k0, k1, k2, k3]

set_option maxRecDepth 100000 in
set_option maxHeartbeats 4000000 in
theorem all_yes (c r t : Int) (sv lv : Value) (xs l : List Nat) (w : World) (hT : Tab w) (hF : Fls w sv xs) (hL : Fls w lv l) (hck : checkB c xs r t = true) :
    Calls Tryd.prog 16 #[fv c sv r t, lv] w fun e w' => (∃ i ys E, allR c r l xs t = (i, ys, E) ∧ ∃ a len cap, e = .returned (.tuple #[fv c (.slice a len cap) r (t + i), .int .i64 (i : Int), .int .i64 E]) ∧ Fls w' (.slice a len cap) ys) ∧ Below w.heap.size w w' := by
  obtain ⟨n, rfl, hn1, hn6, hlen⟩ := check_len hck
  have hl := hF.2.1
  have hll := hL.2.1
  have hpos : 0 < xs.length := by have := place_lt (r := 0) hn6 (by omega) hlen; omega
  obtain ⟨sa, scap, rfl, hcap⟩ := hF.shape
  obtain ⟨la, lcap, rfl, hlcap⟩ := hL.shape
  have hB : Below w.heap.size w ((w.alloc (fcells n (.slice sa xs.length scap) r t)).alloc (fcells 0 (.slice none 0 0) 0 0)) := ((Below.refl _ w).alloc (Nat.le_refl _) _).alloc (by simp) _
  have bF0 : FBox ((w.alloc (fcells n (.slice sa xs.length scap) r t)).alloc (fcells 0 (.slice none 0 0) 0 0)) w.heap.size n (.slice sa xs.length scap) r t := (FBox.new w _ _ _ _).below ((Below.refl _ _).alloc (Nat.le_refl _) _) (Nat.le_refl _)
  have bR0 : FBox ((w.alloc (fcells n (.slice sa xs.length scap) r t)).alloc (fcells 0 (.slice none 0 0) 0 0)) (w.heap.size + 1) 0 (.slice none 0 0) 0 0 := by
    have h := FBox.new (w.alloc (fcells n (.slice sa xs.length scap) r t)) 0 (.slice none 0 0) 0 0
    rw [World.size_alloc] at h; exact h
  have HM : Mid n r l xs t 0 xs := Mid.start hF.1 hck
  have HCK : Hid (checkB n xs r t = true) := hck
  clear hck hlen
  go_enter Tryd.func16, Tryd.ntmps16
  go_wp2_with fail
  refine (check_c n r t _ xs _ (hT.below hB) (hF.below hB (Nat.le_refl _))).mono ?_
  rw [HCK.out]
  rintro e w1 ⟨rfl, hb1⟩
  have bF1 := bF0.below hb1 (Nat.le_refl _)
  have bR1 := bR0.below hb1 (Nat.le_refl _)
  have B1 := hB.trans (hb1.mono hB.size)
  have d1 := bF1.c1
  clear hb1 bF0 bR0 hB
  go_wp2_with fail
  refine (clone_c _ xs _ (hF.below B1 (Nat.le_refl _)) hpos).mono ?_
  rintro e w3 ⟨⟨g, cap, rfl, hg, hX⟩, hb3⟩
  have lR := bR1.lt
  have bF3 := bF1.below hb3 (Nat.le_refl _)
  have bR3 := bR1.below hb3 (Nat.le_refl _)
  have B3 := B1.trans (hb3.mono B1.size)
  have f1 := bF3.c1
  have f1z := bF3.fz 1
  clear d1 hb3 bF1 bR1 B1
  go_wp2_with fail
  have hX3 := (hX.setCell ⟨w.heap.size, 1, none⟩ (.slice (some ⟨g, 0, none⟩) xs.length cap) (by simp; omega)).fls hF.1 hl
  have S : Sa w (w3.setCell ⟨w.heap.size, 1, none⟩ (.slice (some ⟨g, 0, none⟩) xs.length cap)) n r t (some ⟨g, 0, none⟩) xs.length cap xs :=
    ⟨B3.setCell (p := ⟨w.heap.size, 1, none⟩) (Nat.le_refl _) _, bF3.set1 _, bR3.other ⟨w.heap.size, 1, none⟩ _ (by simp), hX3⟩
  clear f1 f1z bF3 bR3 B3 hX hX3 lR hg
  generalize w3.setCell ⟨w.heap.size, 1, none⟩ (.slice (some ⟨g, 0, none⟩) xs.length cap) = W3 at *
  go_loopw [21] (fun i wr => ∃ (k : Nat) (ys : List Nat) (a : Option Addr) (ln cp : Nat), k ≤ l.length ∧ i = .int .i64 (k : Int) ∧ Mid n r l xs t k ys ∧ Sa w wr n r (t + k) a ln cp ys) (fun i _ => l.length - (intOf i).toNat)
  case atStart => exact ⟨0, xs, _, _, _, Nat.zero_le _, by simp, HM, by simpa using S⟩
  case round =>
    clear S HM
    obtain ⟨k, ys, a, ln, cp, hk, rfl, M, S⟩ := hrel
    by_cases hlt : k < l.length
    · have hlt' : (k : Int) < (l.length : Int) := by omega
      obtain ⟨lb, loff, lcap', e, hlb, hc', hcs⟩ := hL.cell (by omega)
      cases e
      have hck := (S.be.cell (p := ⟨lb, loff + k, none⟩) hlb).trans (hcs k hlt)
      have hok := okF_getD hL.1 k
      obtain ⟨x, HX⟩ : ∃ x, Hid (l[k]?.getD 0 = x) := ⟨_, rfl⟩
      rw [HX.out] at hck hok
      clear hcs
      have hO := factor_all n r (t + k) x _ ys wr (hT.below S.be) S.f hok
      unfold FadeC at hO
      have x0 := S.bf.c0
      have x1 := S.bf.c1
      have x2 := S.bf.c2
      have x3 := S.bf.c3
      have M1 : oE n ys r (t + k) x 1 = 0 → Mid n r l xs t (k + 1) (fadeL x ys) := fun h => by
        have := M.step hlt (by rw [HX.out]; exact h)
        rwa [HX.out] at this
      have M2 : oE n ys r (t + k) x 1 ≠ 0 → allR n r l xs t = (k, ys, oE n ys r (t + k) x 1) := fun h => by
        have := M.stop hlt (by rw [HX.out]; exact h)
        rwa [HX.out] at this
      by_cases he : oE n ys r (t + k) x 1 = 0
      · have M3 := M1 he
        obtain ⟨e1, e2, e3, e4⟩ := o_yes he
        rw [e1, e2, e3, e4, he] at hO
        have e5 : fadeN x (1 : Int).toNat ys = fadeL x ys := rfl
        rw [e5] at hO
        clear e1 e2 e3 e4 e5 M1 M2 he
        go_wp2_with fail
        refine hO.mono ?_
        rintro e w4 ⟨⟨a', len', cap', rfl, hf⟩, hb⟩
        have S4 := S.below hb
        have hba : Below w4.heap.size w4 (w4.alloc (fcells n (.slice a' len' cap') r (t + k + 1))) := (Below.refl _ w4).alloc (Nat.le_refl _) _
        have S5 := S4.below hba
        have G5 := FBox.new w4 n (.slice a' len' cap') r (t + k + 1)
        have S6 := S5.put (c' := n) (r' := r) (t' := t + k + 1) (hf.below hba (Nat.le_refl _))
        unfold putF at S6
        have g0 := G5.c0
        have g1 := G5.c1
        have g2 := G5.c2
        have g3 := G5.c3
        have y0 := S5.bf.c0
        have y1 := S5.bf.c1
        have y2 := S5.bf.c2
        have y3 := S5.bf.c3
        have z0 := S5.bf.fz 0
        have z1 := S5.bf.fz 1
        have z2 := S5.bf.fz 2
        have z3 := S5.bf.fz 3
        clear x0 x1 x2 x3 S S4 hf hb hba
        go_wp2_with fail
        go_roundw
        case rel => exact ⟨k + 1, fadeL x ys, a', len', cap', by omega, by go_num, M3, by rw [show t + ((k + 1 : Nat) : Int) = t + k + 1 by omega]; exact S6⟩
        case measure => simp [intOf]; omega
      · have M3 := M2 he
        obtain ⟨e1, e2, e3, e4⟩ := o_no he
        rw [e1, e2, e3, e4] at hO
        obtain ⟨E, HE⟩ : ∃ E, Hid (oE n ys r (t + k) x 1 = E) := ⟨_, rfl⟩
        rw [HE.out] at hO he M3
        have he' : (E != 0) = true := by simpa using he
        clear e1 e2 e3 e4 M1 M2 he
        go_wp2_with fail
        refine hO.mono ?_
        rintro e w4 ⟨⟨a', len', cap', rfl, hf⟩, hb⟩
        have S4 := S.below hb
        have hba : Below w4.heap.size w4 (w4.alloc (fcells 0 (.slice a' len' cap') 0 0)) := (Below.refl _ w4).alloc (Nat.le_refl _) _
        have S5 := S4.below hba
        have y0 := S5.bf.c0
        have y1 := S5.bf.c1
        have y2 := S5.bf.c2
        have y3 := S5.bf.c3
        have r0 := S5.br.c0
        have r1 := S5.br.c1
        have r2 := S5.br.c2
        have r3 := S5.br.c3
        have z0 := S5.br.fz 0
        have z1 := S5.br.fz 1
        have z2 := S5.br.fz 2
        have z3 := S5.br.fz 3
        have b7 := S5.br.put n (.slice a ln cp) r (t + k)
        have hB7 := putF_below S5.be (B := w.heap.size + 1) (by omega) n (.slice a ln cp) r (t + k)
        have hF7 := S5.f.putF S5.br n (.slice a ln cp) r (t + k)
        unfold putF at b7 hB7 hF7
        clear x0 x1 x2 x3 S S4 hf hb hba
        go_wp2_with fail
        exact bodyPost_ret_by (v := .tuple #[fv (n : Int) (.slice a ln cp) r (t + k), .int .i64 (k : Int), .int .i64 E]) (all_results rfl b7 rfl rfl rfl) rfl ⟨⟨k, ys, E, M3, a, ln, cp, rfl, hF7⟩, hB7⟩
    · obtain rfl : k = l.length := by omega
      have M3 := M.done
      have x0 := S.bf.c0
      have x1 := S.bf.c1
      have x2 := S.bf.c2
      have x3 := S.bf.c3
      have r0 := S.br.c0
      have r1 := S.br.c1
      have r2 := S.br.c2
      have r3 := S.br.c3
      have z0 := S.br.fz 0
      have z1 := S.br.fz 1
      have z2 := S.br.fz 2
      have z3 := S.br.fz 3
      have b7 := S.br.put n (.slice a ln cp) r (t + l.length)
      have hB7 := putF_below S.be (B := w.heap.size + 1) (by omega) n (.slice a ln cp) r (t + l.length)
      have hF7 := S.f.putF S.br n (.slice a ln cp) r (t + l.length)
      unfold putF at b7 hB7 hF7
      go_wp2_with fail
      exact bodyPost_ret_by (v := .tuple #[fv (n : Int) (.slice a ln cp) r (t + l.length), .int .i64 (l.length : Int), .int .i64 0]) (all_results rfl b7 rfl rfl rfl) rfl ⟨⟨l.length, ys, 0, M3, a, ln, cp, rfl, hF7⟩, hB7⟩

set_option maxRecDepth 100000 in
set_option maxHeartbeats 2000000 in
theorem all_no (c r t : Int) (sv lv : Value) (xs l : List Nat) (w : World) (hT : Tab w) (hF : Fls w sv xs) (hL : Fls w lv l) (hck : checkB c xs r t = false) :
    Calls Tryd.prog 16 #[fv c sv r t, lv] w fun e w' => e = .returned (.tuple #[fv 0 (.slice none 0 0) 0 0, .int .i64 0, .int .i64 1]) ∧ Below w.heap.size w w' := by
  obtain ⟨sa, scap, rfl, hcap⟩ := hF.shape
  obtain ⟨la, lcap, rfl, hlcap⟩ := hL.shape
  have hB : Below w.heap.size w ((w.alloc (fcells c (.slice sa xs.length scap) r t)).alloc (fcells 0 (.slice none 0 0) 0 0)) := ((Below.refl _ w).alloc (Nat.le_refl _) _).alloc (by simp) _
  have bR0 : FBox ((w.alloc (fcells c (.slice sa xs.length scap) r t)).alloc (fcells 0 (.slice none 0 0) 0 0)) (w.heap.size + 1) 0 (.slice none 0 0) 0 0 := by
    have h := FBox.new (w.alloc (fcells c (.slice sa xs.length scap) r t)) 0 (.slice none 0 0) 0 0
    rw [World.size_alloc] at h; exact h
  have HCK : Hid (checkB c xs r t = false) := hck
  clear hck
  go_enter Tryd.func16, Tryd.ntmps16
  go_wp2_with fail
  refine (check_c c r t _ xs _ (hT.below hB) (hF.below hB (Nat.le_refl _))).mono ?_
  rw [HCK.out]
  rintro e w1 ⟨rfl, hb1⟩
  have bR1 := bR0.below hb1 (Nat.le_refl _)
  have B1 := hB.trans (hb1.mono hB.size)
  have r0 := bR1.c0
  have r1 := bR1.c1
  have r2 := bR1.c2
  have r3 := bR1.c3
  have z0 := bR1.fz 0
  have z1 := bR1.fz 1
  have z2 := bR1.fz 2
  have z3 := bR1.fz 3
  have b7 := bR1.put 0 (.slice none 0 0) 0 0
  have hB7 := putF_below B1 (B := w.heap.size + 1) (by omega) 0 (.slice none 0 0) 0 0
  unfold putF at b7 hB7
  go_wp2_with fail
  exact bodyPost_ret_by (v := .tuple #[fv 0 (.slice none 0 0) 0 0, .int .i64 0, .int .i64 1]) (all_results rfl b7 rfl rfl rfl) rfl ⟨rfl, hB7⟩

theorem all_all (c r t : Int) (sv lv : Value) (xs l : List Nat) (w : World) (hT : Tab w) (hF : Fls w sv xs) (hL : Fls w lv l) : AllC 16 #[fv c sv r t, lv] w c xs r t l := by
  unfold AllC
  cases hck : checkB c xs r t with
  | true =>
    refine (all_yes c r t sv lv xs l w hT hF hL hck).mono ?_
    rintro e w' ⟨⟨i, ys, E, h, a, len, cap, rfl, hf⟩, hb⟩
    obtain ⟨e1, e2, e3, e4, e5, e6⟩ := a_yes hck h
    rw [e1, e2, e3, e4, e5, e6]
    exact ⟨⟨_, _, _, rfl, hf⟩, hb⟩
  | false =>
    obtain ⟨e1, e2, e3, e4, e5, e6⟩ := a_no (l := l) hck
    rw [e1, e2, e3, e4, e5, e6]
    refine (all_no c r t sv lv xs l w hT hF hL hck).mono ?_
    rintro e w' ⟨rfl, hb⟩
    exact ⟨⟨_, _, _, rfl, Fls.nil _⟩, hb⟩
end Go.Proofs.YtdccjlaneobldaaDoor
