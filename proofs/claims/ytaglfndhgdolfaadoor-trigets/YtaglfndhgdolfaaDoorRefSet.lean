/- levellingref07.Set. -/
import Derived.Test.YtaglfndhgdolfaaDoorRefCheck
import Derived.Test.YtaglfndhgdolfaaDoorRefLine
import Derived.Test.YtaglfndhgdolfaaDoorSetNo
namespace Go.Proofs.YtaglfndhgdolfaaDoor
open Go.RowKit Go.Shelf

@[go_sem] theorem run_store_float (P : Program) (w : World) (a : Addr) (k : FloatKind) (b : Nat) (m : Mode) : (store a (.float k b) m).run P w = stored P w a (.float k b) m := run_store P w a _ m rfl

theorem RowX.set {W : World} {g cap q x : Nat} {ys : List Nat} (h : RowX W g cap ys) (hq : q < ys.length) : RowX (W.setCell ⟨g, q, none⟩ (fl x)) g cap (ys.set q x) := by
  obtain ⟨rest, h1, h2⟩ := h
  refine ⟨rest, ?_, by rw [List.length_set]; exact h2⟩
  obtain ⟨hlt, hk⟩ := Array.getElem?_eq_some_iff.1 h1
  have e : (W.setCell ⟨g, q, none⟩ (fl x)).heap[g]? = some (.cells ((ys.map fl ++ rest).toArray.setIfInBounds q (fl x)) 40 (0, 0)) := by
    show (W.heap.modify g _)[g]? = _
    rw [Array.getElem?_eq_getElem (by rw [Array.size_modify]; exact hlt), Array.getElem_modify_self, hk]
    rfl
  rw [e]
  congr 2
  rw [List.setIfInBounds_toArray]
  congr 1
  rw [List.set_append_left _ _ (by simpa using hq), List.map_set]

theorem splice_snoc (xs cs : List Nat) (p x : Nat) (h : p + cs.length < xs.length) : (splice xs p cs).set (p + cs.length) x = splice xs p (cs ++ [x]) := by
  unfold splice
  have h1 : (xs.take p).length = p := by simp; omega
  rw [List.set_append_right _ _ (by omega), h1, show p + cs.length - p = cs.length by omega, List.set_append_right _ _ (Nat.le_refl _), Nat.sub_self]
  rw [List.drop_eq_getElem_cons h]
  simp [Nat.add_assoc]

/-- Row i set as far as entry j. -/
def part (n : Nat) (xs l : List Nat) (i j : Nat) : List Nat := splice xs (place n i) ((l.drop i).take (j - i))
theorem part_start (n : Nat) (xs l : List Nat) (i : Nat) : part n xs l i i = xs := by simp [part, splice]
theorem part_end {n i : Nat} {xs l : List Nat} (hll : l.length = n + 1) : part n xs l i (n + 1) = setN n xs i l := by
  unfold part setN
  rw [List.take_of_length_le (by simp; omega)]
theorem part_step {n i j : Nat} {xs l : List Nat} (h6 : n ≤ 6) (hij : i ≤ j) (hjn : j ≤ n) (hl : xs.length = (n + 1) * (n + 2) / 2) (hll : l.length = n + 1) :
    (part n xs l i j).set (place n i + (j - i)) (l[j]?.getD 0) = part n xs l i (j + 1) := by
  have hp := place_in n h6 i (by omega)
  have hc : ((l.drop i).take (j - i)).length = j - i := by simp; omega
  have := splice_snoc xs ((l.drop i).take (j - i)) (place n i) (l[j]?.getD 0) (by omega)
  rw [hc] at this
  unfold part
  rw [this, show j + 1 - i = (j - i) + 1 by omega, List.take_succ_eq_append_getElem (by simp; omega)]
  congr 2
  simp [show j < l.length by omega, show i + (j - i) = j by omega]
theorem part_length {n i j : Nat} {xs l : List Nat} (h6 : n ≤ 6) (hij : i ≤ j) (hjn : j ≤ n + 1) (hi : i ≤ n) (hl : xs.length = (n + 1) * (n + 2) / 2) (hll : l.length = n + 1) : (part n xs l i j).length = xs.length := by
  have hp := place_in n h6 i hi
  exact length_splice _ _ _ (by simp; omega)

theorem RowX.cellq {W : World} {g cap q : Nat} {ys : List Nat} (h : RowX W g cap ys) (hq : q < ys.length) : W.cell? ⟨g, q, none⟩ = some (fl (ys[q]?.getD 0)) := by
  obtain ⟨rest, h', hc⟩ := h
  simp only [World.cell?, h']
  have e : (ys.map fl ++ rest).toArray[q]? = some (fl (ys[q]?.getD 0)) := by
    rw [List.getElem?_toArray, List.getElem?_append_left (by simpa using hq)]
    simp [hq]
  simpa using e
theorem RowX.fz {W : World} {g cap : Nat} {ys : List Nat} (h : RowX W g cap ys) (q : Nat) : W.frozen? ⟨g, q, none⟩ = false := by
  obtain ⟨rest, h', hc⟩ := h
  simp [World.frozen?, h']

/-- What is known on the way: of three boxes and a row. -/
structure Sr (w W : World) (F R G g cap len : Nat) (c m t : Int) (u : Value) (ys : List Nat) : Prop where
  b : Below w.heap.size w W
  bf : FBox W F c u m t
  br : FBox W R 0 (.slice none 0 0) 0 0
  bg : FBox W G c (.slice (some ⟨g, 0, none⟩) len cap) m t
  y : RowX W g cap ys
theorem Sr.below {w W W' : World} {F R G g cap len : Nat} {c m t : Int} {u : Value} {ys : List Nat} (h : Sr w W F R G g cap len c m t u ys) (hb : Below W.heap.size W W') : Sr w W' F R G g cap len c m t u ys :=
  ⟨h.b.trans (hb.mono h.b.size), h.bf.below hb (Nat.le_refl _), h.br.below hb (Nat.le_refl _), h.bg.below hb (Nat.le_refl _), h.y.below hb (Nat.le_refl _)⟩
theorem Sr.set {w W : World} {F R G g cap len : Nat} {c m t : Int} {u : Value} {ys : List Nat} (h : Sr w W F R G g cap len c m t u ys) {q x : Nat} (hq : q < ys.length) (h1 : g ≠ F) (h2 : g ≠ R) (h3 : g ≠ G) (hw : w.heap.size ≤ g) : Sr w (W.setCell ⟨g, q, none⟩ (fl x)).drew F R G g cap len c m t u (ys.set q x) :=
  Sr.below (W := W.setCell ⟨g, q, none⟩ (fl x)) ⟨h.b.setCell (p := ⟨g, q, none⟩) hw _, h.bf.other ⟨g, q, none⟩ _ h1, h.br.other ⟨g, q, none⟩ _ h2, h.bg.other ⟨g, q, none⟩ _ h3, h.y.set hq⟩ ((Below.refl _ _).drew)

theorem rset_results {W : World} {B : Nat} {c r t : Int} {sv : Value} (h : FBox W B c sv r t) {tmps : Array Value} {b : Bool} (h6 : tmps.getD 6 undef = .pointer (some ⟨B, 0, none⟩)) (h7 : tmps.getD 7 undef = .bool b) :
    (results Tryd.f20 tmps).run Tryd.prog W = .ok (.tuple #[fv c sv r t, .bool b]) W := by
  have k0 := h.c0
  have k1 := h.c1
  have k2 := h.c2
  have k3 := h.c3
  rw [results_cell_tmp rfl, h6, h7]
  simp [go_sem, k0, k1, k2, k3]

theorem own_rowX {W : World} {base : Nat} {v : Value} {xs : List Nat} (h : W.ownsRow base 40 1 v xs.length (xs.map fl)) (h0 : 0 < xs.length) : ∃ g cap, v = .slice (some ⟨g, 0, none⟩) xs.length cap ∧ base ≤ g ∧ RowX W g cap xs := by
  rcases h.2 with ⟨_, hn⟩ | ⟨g, cap', cur, rfl, hbg, hg, hn, hc, hs, ht⟩
  · omega
  · refine ⟨g, cap', rfl, hbg, cur.toList.drop xs.length, ?_, ?_⟩
    · rw [hg, ← ht, Nat.mul_one, List.take_append_drop]
    · have h5 : cur.toList.length = cur.size := Array.length_toList
      rw [List.length_drop]; omega

set_option maxRecDepth 100000 in
set_option maxHeartbeats 4000000 in
theorem rset_c (n i : Nat) (r t : Int) (sv lv : Value) (xs l : List Nat) (w : World) (hF : Fls w sv xs) (hL : Fls w lv l) (hck : checkB n xs r t = true) (hin : i ≤ n) (hll : l.length = n + 1) :
    Calls Tryd.prog 20 #[fv n sv r t, .int .i64 (i : Int), lv] w fun e w' =>
      ((checkB n (setN n xs i l) r t = true ∧ ∃ g cap, e = .returned (.tuple #[fv n (.slice (some ⟨g, 0, none⟩) xs.length cap) r t, .bool true]) ∧ w.heap.size ≤ g ∧ RowX w' g cap (setN n xs i l)) ∨
       (checkB n (setN n xs i l) r t = false ∧ e = .returned (.tuple #[fv 0 (.slice none 0 0) 0 0, .bool false]))) ∧ Below w.heap.size w w' := by
  obtain ⟨n', hn', hn1, hn6, hlen⟩ := check_len hck
  obtain rfl : n = n' := by omega
  have hl := hF.2.1
  have hpi := place_in n hn6 i hin
  have hpos : 0 < xs.length := by omega
  obtain ⟨b, off, cap, rfl, hb, hcap, hcs⟩ := hF.cell hpos
  obtain ⟨lb, loff, lcap, rfl, hlb, hlcap, hlcs⟩ := hL.cell (by omega)
  obtain ⟨i0, hi, hz0, hz1, hz2⟩ := info_parts Tryd.infoF
  have hB : Below w.heap.size w ((w.alloc (fcells n (.slice (some ⟨b, off, none⟩) xs.length cap) r t)).alloc (fcells 0 (.slice none 0 0) 0 0)) := ((Below.refl _ w).alloc (Nat.le_refl _) _).alloc (by simp) _
  have bF0 : FBox ((w.alloc (fcells n (.slice (some ⟨b, off, none⟩) xs.length cap) r t)).alloc (fcells 0 (.slice none 0 0) 0 0)) w.heap.size n (.slice (some ⟨b, off, none⟩) xs.length cap) r t := (FBox.new w _ _ _ _).below ((Below.refl _ _).alloc (Nat.le_refl _) _) (Nat.le_refl _)
  have bR0 : FBox ((w.alloc (fcells n (.slice (some ⟨b, off, none⟩) xs.length cap) r t)).alloc (fcells 0 (.slice none 0 0) 0 0)) (w.heap.size + 1) 0 (.slice none 0 0) 0 0 := by
    have h := FBox.new (w.alloc (fcells n (.slice (some ⟨b, off, none⟩) xs.length cap) r t)) 0 (.slice none 0 0) 0 0
    rw [World.size_alloc] at h; exact h
  have hF1 := hF.below hB (Nat.le_refl _)
  have HCK : Hid (checkB n xs r t = true) := hck
  have HLEN : Hid (xs.length = (n + 1) * (n + 2) / 2) := hlen
  have HLL : Hid (l.length = n + 1) := hll
  have HCS : Hid (∀ j, j < xs.length → w.cell? ⟨b, off + j, none⟩ = some (fl (xs[j]?.getD 0))) := hcs
  have HLCS : Hid (∀ j, j < l.length → w.cell? ⟨lb, loff + j, none⟩ = some (fl (l[j]?.getD 0))) := hlcs
  have hd1 : decide ((i : Int) < 0) = false := decide_eq_false (by omega)
  have hd2 : decide ((n : Int) < (i : Int)) = false := decide_eq_false (by omega)
  have hd3 : decide (n < i) = false := decide_eq_false (by omega)
  have hlen' : ((l.length : Int) != (n : Int) + 1) = false := by simp; omega
  clear hck hn' hlen hll hcs hlcs
  go_enter Tryd.func20, Tryd.ntmps20
  go_wp2_with fail
  refine (rcheck_c n r t _ xs _ hF1).mono ?_
  rw [HCK.out]
  rintro e w1 ⟨rfl, hb1⟩
  have bF1 := bF0.below hb1 (Nat.le_refl _)
  have bR1 := bR0.below hb1 (Nat.le_refl _)
  have B1 := hB.trans (hb1.mono hB.size)
  have d0 := bF1.c0
  have d1 := bF1.c1
  have d2 := bF1.c2
  have d3 := bF1.c3
  have lF := bF1.lt
  have lR := bR1.lt
  clear hb1 bF0 bR0 hB hF1
  have bo := built_own (w1.alloc (fcells n (.slice (some ⟨b, off, none⟩) xs.length cap) r t))
  rw [World.size_alloc] at bo
  have hb1a : Below w1.heap.size w1 ((w1.alloc (fcells n (.slice (some ⟨b, off, none⟩) xs.length cap) r t)).alloc (.cells #[] 40)) := ((Below.refl _ w1).alloc (Nat.le_refl _) _).alloc (by simp) _
  have B1a := B1.trans (hb1a.mono B1.size)
  have hnews : Hid (∀ j u, (xs.map fl)[j]? = some u → ((w1.alloc (fcells n (.slice (some ⟨b, off, none⟩) xs.length cap) r t)).alloc (.cells #[] 40)).cell? ((⟨b, off, none⟩ : Addr).add j) = some u) := by
    intro j u hu
    have hj : j < xs.length := by
      have := (List.getElem?_eq_some_iff.1 hu).1
      simpa using this
    rw [add_none, (B1a.cell (p := ⟨b, off + j, none⟩) hb).trans (HCS.out j hj), ← hu]
    simp [hj]
  have hone : Hid (∀ u ∈ xs.map fl, u.oneCell' = true) := by
    intro u hu
    obtain ⟨d, _, rfl⟩ := List.mem_map.1 hu
    rfl
  have bGa : FBox ((w1.alloc (fcells n (.slice (some ⟨b, off, none⟩) xs.length cap) r t)).alloc (.cells #[] 40)) w1.heap.size n (.slice (some ⟨b, off, none⟩) xs.length cap) r t := (FBox.new w1 _ _ _ _).below ((Below.refl _ _).alloc (Nat.le_refl _) _) (Nat.le_refl _)
  have bFa := bF1.below hb1a (Nat.le_refl _)
  have bRa := bR1.below hb1a (Nat.le_refl _)
  have hba : w1.heap.size + 1 ≤ ((w1.alloc (fcells n (.slice (some ⟨b, off, none⟩) xs.length cap) r t)).alloc (.cells #[] 40)).heap.size := by simp
  have hmx : 0 + xs.length ≤ maxLen := by unfold maxLen; omega
  have hby : (0 + xs.length) * 8 ≤ 140737488355328 := by omega
  have post : ∀ v' w2, World.ownsRow w2 (w1.heap.size + 1) 40 1 v' (0 + xs.length) ([] ++ xs.map fl) → ((w1.alloc (fcells n (.slice (some ⟨b, off, none⟩) xs.length cap) r t)).alloc (.cells #[] 40)).grownBy w2 (some (w1.heap.size + 1)) →
      ∃ g cap', v' = .slice (some ⟨g, 0, none⟩) xs.length cap' ∧ w1.heap.size + 1 ≤ g ∧ RowX w2 g cap' xs ∧ FBox w2 w1.heap.size n (.slice (some ⟨b, off, none⟩) xs.length cap) r t ∧ FBox w2 w.heap.size n (.slice (some ⟨b, off, none⟩) xs.length cap) r t ∧ FBox w2 (w.heap.size + 1) 0 (.slice none 0 0) 0 0 ∧ Below w.heap.size w w2 := by
    intro v' w2 ho hg
    rw [Nat.zero_add, List.nil_append] at ho
    obtain ⟨g, cap', e, hgb, hX⟩ := own_rowX ho hpos
    have hsz : ((w1.alloc (fcells n (.slice (some ⟨b, off, none⟩) xs.length cap) r t)).alloc (.cells #[] 40)).heap.size = w1.heap.size + 2 := by simp
    have kp : ∀ q, q ≤ w1.heap.size → w2.heap[q]? = ((w1.alloc (fcells n (.slice (some ⟨b, off, none⟩) xs.length cap) r t)).alloc (.cells #[] 40)).heap[q]? := fun q hq => hg.block q (by omega) (fun e => by cases e; omega)
    refine ⟨g, cap', e, hgb, hX, (kp _ (Nat.le_refl _)).trans bGa, (kp _ (by omega)).trans bFa, (kp _ (by omega)).trans bRa, Below.grown B1a hg B1a.size (fun q e => by cases e; omega)⟩
  go_wp2_with (at_builtin; refine wpList_append_own _ rfl _ _ 22 rfl (w1.heap.size + 1) 40 i0 (.float .f64 0) 1 8 Tryd.underlying22 hi hz0 hz1 hz2 rfl (by decide) _ _ _ rfl bo ⟨b, off, none⟩ xs.length _ (xs.map fl) rfl (by simp) hnews.out hone.out hmx hby hba ?_; intro v' w2 hown' hgrow _; obtain ⟨g, cap', rfl, hgb, hX, bG2, bF2, bR2, B2⟩ := post v' w2 hown' hgrow; have f1 := bG2.c1; have f1z := bG2.fz 1)
  have S : Sr w (w2.setCell ⟨w1.heap.size, 1, none⟩ (.slice (some ⟨g, 0, none⟩) xs.length cap')) w.heap.size (w.heap.size + 1) w1.heap.size g cap' xs.length n r t (.slice (some ⟨b, off, none⟩) xs.length cap) xs :=
    ⟨B2.setCell (p := ⟨w1.heap.size, 1, none⟩) (by simp; omega) _, bF2.other ⟨w1.heap.size, 1, none⟩ _ (by simp; omega), bR2.other ⟨w1.heap.size, 1, none⟩ _ (by simp; omega), bG2.set1 _, hX.setCell ⟨w1.heap.size, 1, none⟩ _ (by simp; omega)⟩
  have n1 : g ≠ w.heap.size := by omega
  have n2 : g ≠ w.heap.size + 1 := by omega
  have n3 : g ≠ w1.heap.size := by omega
  have n4 : w.heap.size ≤ g := by omega
  have n5 : w.heap.size + 1 ≠ w1.heap.size := by omega
  clear f1 f1z bG2 bF2 bR2 B2 hX bo hb1a B1a hnews hone bGa bFa bRa hba hmx hby post bF1 bR1 B1 d0 d1 d2 d3 hgrow hown' HCS hcap
  generalize w1.heap.size = G at *
  generalize w2.setCell ⟨G, 1, none⟩ (.slice (some ⟨g, 0, none⟩) xs.length cap') = W2 at *
  go_loopw [9] (fun j wr => ∃ k : Nat, i ≤ k ∧ k ≤ n + 1 ∧ j = .int .i64 (k : Int) ∧ Sr w wr w.heap.size (w.heap.size + 1) G g cap' xs.length n r t (.slice (some ⟨b, off, none⟩) xs.length cap) (part n xs l i k)) (fun j _ => n + 1 - (intOf j).toNat)
  case atStart => exact ⟨i, Nat.le_refl _, by omega, rfl, by rw [part_start]; exact S⟩
  case round =>
    clear S
    obtain ⟨k, hik, hk, rfl, S⟩ := hrel
    have x0 := S.bf.c0
    by_cases hlt : k ≤ n
    · obtain ⟨q, HQ⟩ : ∃ q, Hid (place n i + (k - i) = q) := ⟨_, rfl⟩
      have hpl := part_length hn6 hik hk hin HLEN.out HLL.out
      have HPL : Hid ((part n xs l i k).length = xs.length) := hpl
      have hql : q < xs.length := by have := HQ.out; have := HLEN.out; omega
      have g1 := S.bg.c1
      obtain ⟨y, HY⟩ : ∃ y, Hid (l[k]?.getD 0 = y) := ⟨_, rfl⟩
      have hcl := (S.b.cell (p := ⟨lb, loff + k, none⟩) hlb).trans (HLCS.out k (by rw [HLL.out]; omega))
      rw [HY.out] at hcl
      have hcg := S.y.cellq (q := q) (by rw [HPL.out]; exact hql)
      have hzg := S.y.fz q
      have hkl : (k : Int) < (l.length : Int) := by have := HLL.out; omega
      have hqx : (q : Int) < (xs.length : Int) := by omega
      obtain ⟨z, HZ⟩ : ∃ z, Hid ((part n xs l i k)[q]?.getD 0 = z) := ⟨_, rfl⟩
      rw [HZ.out] at hcg
      clear hpl
      go_wp2_with fail
      refine (rat_yes n i k _ hn1 hn6 hik hlt).mono ?_
      rw [HQ.out]
      rintro e w3 ⟨rfl, rfl⟩
      go_wp2_with fail
      go_region
      all_goals
        go_wp2_with fail
        go_roundw
        case rel =>
          have hS := S.set (q := q) (x := y) (by rw [HPL.out]; exact hql) n1 n2 n3 n4
          rw [← HY.out, ← HQ.out, part_step hn6 hik hlt HLEN.out HLL.out, HQ.out, HY.out] at hS
          exact ⟨k + 1, by omega, by omega, by go_num, hS⟩
        case measure => simp [intOf]; omega
    · obtain rfl : k = n + 1 := by omega
      rw [part_end HLL.out] at S
      have hyF := S.y.fls (set_ok hF.1 hL.1) (by rw [set_length hn6 hin HLEN.out HLL.out]; exact hl)
      rw [set_length hn6 hin HLEN.out HLL.out] at hyF
      have g0 := S.bg.c0
      have g1 := S.bg.c1
      have g2 := S.bg.c2
      have g3 := S.bg.c3
      go_wp2_with fail
      refine (rcheck_c n r t _ _ _ hyF).mono ?_
      rintro e w6 ⟨rfl, hb6⟩
      replace S := S.below hb6
      have g0 := S.bg.c0
      have g1 := S.bg.c1
      have g2 := S.bg.c2
      have g3 := S.bg.c3
      have r0 := S.br.c0
      have r1 := S.br.c1
      have r2 := S.br.c2
      have r3 := S.br.c3
      have z0 := S.br.fz 0
      have z1 := S.br.fz 1
      have z2 := S.br.fz 2
      have z3 := S.br.fz 3
      clear hb6 hyF x0
      cases hc2 : checkB n (setN n xs i l) r t with
      | true =>
        have b7 := S.br.put n (.slice (some ⟨g, 0, none⟩) xs.length cap') r t
        have hB7 := putF_below S.b (B := w.heap.size + 1) (by omega) n (.slice (some ⟨g, 0, none⟩) xs.length cap') r t
        have hG7 := S.y.putF (w.heap.size + 1) (by omega) n (.slice (some ⟨g, 0, none⟩) xs.length cap') r t
        unfold putF at b7 hB7 hG7
        go_wp2_with fail
        exact bodyPost_ret_by (v := .tuple #[fv (n : Int) (.slice (some ⟨g, 0, none⟩) xs.length cap') r t, .bool true]) (rset_results b7 rfl rfl) rfl ⟨.inl ⟨hc2, g, cap', rfl, n4, hG7⟩, hB7⟩
      | false =>
        have b7 := S.br.put 0 (.slice none 0 0) 0 0
        have hB7 := putF_below S.b (B := w.heap.size + 1) (by omega) 0 (.slice none 0 0) 0 0
        unfold putF at b7 hB7
        go_wp2_with fail
        exact bodyPost_ret_by (v := .tuple #[fv 0 (.slice none 0 0) 0 0, .bool false]) (rset_results b7 rfl rfl) rfl ⟨.inr ⟨hc2, rfl⟩, hB7⟩
end Go.Proofs.YtaglfndhgdolfaaDoor
