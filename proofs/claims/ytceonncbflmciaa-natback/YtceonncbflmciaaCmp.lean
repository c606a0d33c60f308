/- nat.Cmp. -/
import Derived.Deep.RegionWith
import Derived.Test.YtceonncbflmciaaBasic
namespace Go.Proofs.Ytceonncbflmciaa
open Go.RowKit Go.Shelf
attribute [local go_sem] Oper.semAt_some

theorem list_ext_getD {X Y : List Nat} (h : X.length = Y.length) (he : ∀ i : Nat, i < X.length → X[i]?.getD 0 = Y[i]?.getD 0) : X = Y := by
  apply List.ext_getElem h
  intro i h1 h2
  have := he i h1
  simpa [h1, h2] using this

theorem val_lt_at {X Y : List Nat} {j : Nat} (hx : small X) (h : X.length = Y.length) (hj : j < X.length) (he : ∀ i : Nat, j < i → X[i]?.getD 0 = Y[i]?.getD 0) (hlt : X[j]?.getD 0 < Y[j]?.getD 0) : val X < val Y := by
  have hd : X.drop (j + 1) = Y.drop (j + 1) := by
    apply list_ext_getD (by simp [h])
    intro i _
    rw [getD_drop, getD_drop]
    exact he _ (by omega)
  rw [val_split X (j + 1), val_split Y (j + 1), hd, val_take_succ, val_take_succ]
  have l1 : (X.take (j + 1)).length = j + 1 := by simp; omega
  have l2 : (Y.take (j + 1)).length = j + 1 := by simp; omega
  have hlow : val (X.take j) < 4294967296 ^ j := by
    have := val_lt (small_take j hx)
    rwa [List.length_take, show min j X.length = j from by omega] at this
  rw [l1, l2]
  have hm : 4294967296 ^ j * (X[j]?.getD 0 + 1) ≤ 4294967296 ^ j * Y[j]?.getD 0 := Nat.mul_le_mul_left _ hlt
  rw [Nat.mul_add, Nat.mul_one] at hm
  omega

theorem val_lt_len {X Y : List Nat} (hx : small X) (hy : norm Y) (h : X.length < Y.length) : val X < val Y := by
  have h1 := val_lt hx
  have h2 := val_ge hy (by omega)
  have h3 : 4294967296 ^ X.length ≤ 4294967296 ^ (Y.length - 1) := Nat.pow_le_pow_right (by omega) (by omega)
  omega

/-- No panic is let out. -/
def noPanic (Q : Exit → Act → World → Prop) : Exit → Act → World → Prop
  | .panic _, _, _ => False
  | e, a, w => Q e a w
theorem noPanic_le {Q : Exit → Act → World → Prop} : ∀ e a w, noPanic Q e a w → Q e a w := by
  intro e a w h
  cases e <;> first | exact h | exact h.elim

set_option maxRecDepth 100000 in
set_option maxHeartbeats 4000000 in
theorem cmp_in (n : Nat) (hn : 3 ≤ n) (va vb : Value) (A B : List Nat) (w : World) (hA : Digs w va A) (hB : Digs w vb B) :
    CallsIn Fence.wide n Try.prog 23 #[va, vb] w fun e w' => e = .returned (.int .i64 (ordN (val A) (val B))) ∧ Below w.heap.size w w' := by
  have h1 : 1 ≤ n := by omega
  have hro : Fence.wide.round = none := rfl
  obtain ⟨aa, ca, rfl, hca⟩ := hA.shape
  obtain ⟨ab, cb, rfl, hcb⟩ := hB.shape
  have hla := hA.2.1
  have hlb := hB.2.1
  have HN : Hid (ordN (val (trimL A)) (val (trimL B)) = ordN (val A) (val B)) := by show _ = _; rw [val_trimL, val_trimL]
  generalize ordN (val A) (val B) = O at *
  refine callsIn_of_wp_marks Try.func23 rfl trivial ?_ hro
  simp only [Try.ntmps23, List.size_toArray, List.length_cons, List.length_nil, Nat.reduceAdd, Nat.reduceSub, Array.replicate_succ, Array.replicate_zero, List.push_toArray, List.append_toArray, List.nil_append, List.cons_append]
  have bB := Boxed.new w 23 (.slice ab B.length cb)
  have bR := Boxed.new (w.alloc (.cells #[.slice ab B.length cb] 23)) 3 (.int .i64 0)
  rw [World.size_alloc] at bR
  have hB0 : Below w.heap.size w ((w.alloc (.cells #[.slice ab B.length cb] 23)).alloc (.cells #[.int .i64 0] 3)) := ((Below.refl _ w).alloc (Nat.le_refl _) _).alloc (by simp) _
  have bB := bB.alloc (.cells #[.int .i64 0] 3)
  refine wpIn_mono (Q := noPanic (bodyPostM Fence.wide n Try.prog Try.f23 _)) ?_ noPanic_le
  refine wpIn_wide.2 ?_
  go_wp2
  generalize hw0 : (w.alloc (.cells #[.slice ab B.length cb] 23)).alloc (.cells #[.int .i64 0] 3) = W0 at *
  have hW0 : W0.heap.size = w.heap.size + 2 := by rw [← hw0]; simp
  have HW0 : Hid (W0.heap.size = w.heap.size + 2) := hW0
  clear hw0 hW0
  have cB := bB.cell
  have fB := bB.frozen
  have hA1 := hA.below hB0 (Nat.le_refl _)
  have hB1 := hB.below hB0 (Nat.le_refl _)
  have hlt0 : w.heap.size < W0.heap.size := by rw [HW0.out]; omega
  have hlt1 : w.heap.size + 1 < W0.heap.size := by rw [HW0.out]; omega
  have cR := bR.cell
  have fR := bR.frozen
  go_region_with (first | (go_at_call_of 27 (Value.slice aa A.length ca); refine (trim_d aa ca A _ ?_).mono ?_; exact hA1.below ((Below.refl _ W0).drew) (Nat.le_refl _); rintro e w2 ⟨rfl, hb2⟩; have hb2' : Below W0.heap.size W0 w2 := ((Below.refl _ W0).drew).trans hb2; have cB2 := (hb2'.cell (p := ⟨w.heap.size, 0, none⟩) hlt0).trans cB; have fB2 := (hb2'.frozen (p := ⟨w.heap.size, 0, none⟩) hlt0).trans fB; clear hb2) | (go_at_call_of 27 (Value.slice ab B.length cb); refine (trim_d ab cb B _ ?_).mono ?_; exact hB1.below hb2' (Nat.le_refl _); rintro e w3 ⟨rfl, hb3⟩; have hb3' : Below W0.heap.size W0 w3 := hb2'.trans (hb3.mono hb2'.size); have cB3 := (hb3'.cell (p := ⟨w.heap.size, 0, none⟩) hlt0).trans cB; have fB3 := (hb3'.frozen (p := ⟨w.heap.size, 0, none⟩) hlt0).trans fB; clear hb3))
  all_goals
    have hX := hA1.trim'.below hb3' (Nat.le_refl _)
    have hY := hB1.trim'.below hb3' (Nat.le_refl _)
    have nX := norm_trimL A
    have nY := norm_trimL B
    have hbX : ∀ b off cap, Value.slice aa (trimL A).length ca = .slice (some ⟨b, off, none⟩) (trimL A).length cap → 0 < (trimL A).length → b < w.heap.size := hA.trim'.blk
    have hYw := hB.trim'
    have hXw := hA.trim'
    generalize trimL A = X at *
    generalize trimL B = Y at *
    have bB4 := (boxed_below bB hb3' (Nat.le_refl _)).set (.slice ab Y.length cb)
    have bR4 : Boxed (w3.setCell ⟨w.heap.size, 0, none⟩ (.slice ab Y.length cb)) (w.heap.size + 1) 3 (.int .i64 0) := (Below.heap_setCell _ _ _ _ (by simp)).trans (boxed_below bR hb3' (Nat.le_refl _))
    have hb4 : Below w.heap.size w (w3.setCell ⟨w.heap.size, 0, none⟩ (.slice ab Y.length cb)) := (hB0.trans (hb3'.mono (by omega))).setCell (p := ⟨w.heap.size, 0, none⟩) (Nat.le_refl _) _
    clear hX hY cB2 fB2 cB3 fB3 hb2' cB fB cR fR bB bR hA1 hB1
    generalize w3.setCell ⟨w.heap.size, 0, none⟩ (.slice ab Y.length cb) = W4 at *
    have cB := bB4.cell
    have fB := bB4.frozen
    have cR := bR4.cell
    have fR := bR4.frozen
    by_cases hlen : X.length = Y.length
    · have hlen' : ((X.length : Int) != (Y.length : Int)) = false := by simp; omega
      have HL : Hid (X.length = Y.length) := hlen
      have hlx := hXw.2.1
      clear hlen
      go_wp2_with (go_at_call 34; refine (callsIn_wide.1 (back_in Fence.wide 3 trivial hro _ _ _ _)).mono ?_; rintro e w' ⟨rfl, rfl⟩)
      refine (wpIn_wide (n := n)).1 ?_
      have bN := Boxed.new W4 23 (.slice aa X.length ca)
      have hB5 : Below w.heap.size w (W4.alloc (.cells #[.slice aa X.length ca] 23)) := hb4.alloc hb4.size _
      have hltR : w.heap.size + 1 < W4.heap.size := bR4.lt
      refine wpIn_rangeFunc_ownG hro h1 (gf := 45) (lb := #[.pointer (some ⟨W4.heap.size, 0, none⟩)]) rfl trivial (enters_of Try.func45 (by kernel_rfl) rfl)
        (back_stops Fence.wide (n - 1) trivial hro (by omega) W4.heap.size w.heap.size _ X _ hbX bN.cell (hXw.below hB5 (Nat.le_refl _))) KpB_t (KpB_b (by simp; omega) (by simp)) (Below.refl _ _) (fun _ => rfl)
        (fun pre W => ((∀ p ∈ pre, Y[p.1.1]?.getD 0 = p.1.2) ∧ W.cell? ⟨w.heap.size + 1, 0, none⟩ = some (.int .i64 0) ∧ W.frozen? ⟨w.heap.size + 1, 0, none⟩ = false ∧ W.cell? ⟨w.heap.size, 0, none⟩ = some (.slice ab Y.length cb)) ∧ Below w.heap.size w W)
        (fun c pre W => (c = .ret ∧ ∃ ini last, pre = ini ++ [last] ∧ (∀ p ∈ ini, Y[p.1.1]?.getD 0 = p.1.2) ∧ Y[last.1.1]?.getD 0 ≠ last.1.2 ∧ W.cell? ⟨w.heap.size + 1, 0, none⟩ = some (.int .i64 (ordN last.1.2 (Y[last.1.1]?.getD 0)))) ∧ Below w.heap.size w W)
        (OwnFrom.and (Own.from (fun s A B row hs hg hr => ⟨hs.1, cell_kept hs.2.1 hg hr, (frozen_kept hs.2.1 hg hr).trans hs.2.2.1, cell_kept hs.2.2.2 hg hr⟩) _) (ownFrom_below (Nat.le_refl _) (by simp; omega)))
        (fun c => OwnFrom.and (Own.from (fun s A B row hs hg hr => by obtain ⟨hc, ini, last, e1, e2, e3, e4⟩ := hs; exact ⟨hc, ini, last, e1, e2, e3, cell_kept e4 hg hr⟩) _) (ownFrom_below (Nat.le_refl _) (by simp; omega)))
        ⟨⟨by simp, (bR4.alloc _).cell, (bR4.alloc _).frozen, (bB4.alloc _).cell⟩, hB5⟩
        (fun x => { tmps := #[.slice aa X.length ca, .slice ab B.length cb, undef, .pointer (some ⟨w.heap.size, 0, none⟩), .pointer (some ⟨w.heap.size + 1, 0, none⟩), .int .i64 (x.1.1 : Int), .int .u32 (x.1.2 : Int), .slice aa A.length ca, .slice aa X.length ca, .slice ab B.length cb, .slice ab Y.length cb, .slice aa X.length ca, .int .i64 (X.length : Int), .slice ab Y.length cb, .int .i64 (Y.length : Int), .bool false, undef, undef, undef, undef, undef, .slice aa X.length ca, .func (.func 45) #[] #[.pointer (some ⟨W4.heap.size, 0, none⟩)], .int .i64 (x.1.1 : Int), .int .u32 (x.1.2 : Int), undef, undef, undef, undef, undef, undef, undef, undef, undef, undef, undef, undef], defers := [] }) ?assign ?body ?done ?stop
      case assign =>
        intro l x W K hK
        gi_wp2
        exact hK
      case body =>
        rintro l pre x W ⟨⟨hp, hcr, hfr, hcb2⟩, hBW⟩ _
        have hx1 := x.2.1
        have hx2 : x.1.1 < Y.length := by rw [← HL.out]; exact hx1
        obtain ⟨b1, o1, c1, e1, hb1, hc1⟩ := hYw.cell (by omega)
        obtain ⟨rfl, rfl⟩ : ab = some ⟨b1, o1, none⟩ ∧ cb = c1 := by simpa using e1
        have hy0 := (hBW.cell (p := ⟨b1, o1 + x.1.1, none⟩) hb1).trans (hc1 _ hx2)
        obtain ⟨y, hy⟩ : ∃ y, Y[x.1.1]?.getD 0 = y := ⟨_, rfl⟩
        have hy1 : W.cell? ⟨b1, o1 + x.1.1, none⟩ = some (.int .u32 (y : Int)) := by rw [hy0, hy]
        have HY : Hid (Y[x.1.1]?.getD 0 = y) := hy
        have h1' : 1 ≤ n - 1 - 1 := by omega
        clear hy hc1 e1 hy0
        by_cases hxy : x.1.2 = y
        · have hxy' : ((x.1.2 : Int) != (y : Int)) = false := by simp [hxy]
          have HXY : Hid (x.1.2 = y) := hxy
          clear hxy
          gi_wp2
          exact ⟨KeepsFrom.refl _ _, KpB.refl _ _ _, ⟨fun p hp' => (List.mem_append.1 hp').elim (hp p) (fun e => by simp at e; subst e; rw [HY.out, HXY.out]), hcr, hfr, hcb2⟩, hBW⟩
        · have hxy' : ((x.1.2 : Int) != (y : Int)) = true := by simp; omega
          have HXY : Hid (x.1.2 ≠ y) := hxy
          clear hxy
          gi_wp2_with (refine ⟨trivial, ?_⟩; gi_at_call 43; refine (CallsIn.inRound l (callsIn_wide.2 (cmp_u32_c _ _ _))).mono ?_; rintro e w' ⟨rfl, rfl⟩)
          exact ⟨(KeepsOthers.setCell _ _ _).from _, ⟨rfl, pre, x, rfl, hp, by rw [HY.out]; exact fun e => HXY.out e.symm, by rw [HY.out]; exact World.cell?_setCell_same' _ _ _ (by rw [hcr]; rfl)⟩, hBW.setCell (p := ⟨w.heap.size + 1, 0, none⟩) (by simp) _⟩
      case done =>
        rintro D ys W hD hys ⟨⟨hne, hcr, hfr, _⟩, hBW⟩ hK
        go_wp2
        have he : X = Y := by
          apply list_ext_getD HL.out
          intro i hi
          have hm := seqB_mem (k := X.length) hi (by omega)
          rw [← hys] at hm
          obtain ⟨p, hp1, hp2⟩ := List.mem_map.1 hm
          have := hne p hp1
          rw [hp2] at this
          exact this.symm
        have hK' := (KeepsOthers.setCell W ⟨w.heap.size + 1, 0, none⟩ (.int .i64 0)).same D _ hK rfl
        refine ⟨by simp, .inl ⟨_, _, rfl, run_takeDeferred hK', ?_⟩⟩
        have hc5 := cell_kept (World.cell?_setCell_same' W ⟨w.heap.size + 1, 0, none⟩ (.int .i64 0) (by rw [hcr]; rfl)) (grownBy_putObj' _ D (.deferred none)) (fun r e => by cases e; exact ⟨_, hK', rfl⟩)
        refine ⟨.int .i64 0, ?_, by rw [← HN.out, he, ordN_eq], (hBW.setCell (p := ⟨w.heap.size + 1, 0, none⟩) (by simp) _).trans (belowK_b (w := w) (Nat.le_refl _) _ D _ _ (by simp at hD; omega) hK' rfl rfl)⟩
        simp [results, Try.f23, go_sem, hc5]
      case stop =>
        rintro D c pre W hD ⟨k, hk, hpre⟩ ⟨⟨rfl, ini, last, rfl, e2, e3, hcr⟩, hBW⟩ hK
        refine wpIn_wide.2 ?_
        go_wp2
        refine ⟨by simp, .inl ⟨_, _, rfl, run_takeDeferred hK, ?_⟩⟩
        have hc5 := cell_kept hcr (grownBy_putObj' _ D (.deferred none)) (fun r e => by cases e; exact ⟨_, hK, rfl⟩)
        obtain ⟨k', rfl⟩ : ∃ k', k = k' + 1 := by
          cases k with
          | zero => simp [seqB] at hpre
          | succ k' => exact ⟨k', rfl⟩
        rw [seqB_succ, List.map_append] at hpre
        obtain ⟨hini, e5⟩ := List.append_inj' hpre rfl
        have e6 : last.1 = (X.length - 1 - k', X[X.length - 1 - k']?.getD 0) := by simpa using e5
        have hhigh : ∀ i : Nat, X.length - 1 - k' < i → X[i]?.getD 0 = Y[i]?.getD 0 := by
          intro i hi
          by_cases hil : i < X.length
          · have hm := seqB_mem (k := k') hil (by omega)
            rw [← hini] at hm
            obtain ⟨p, hp1, hp2⟩ := List.mem_map.1 hm
            have := e2 p hp1
            rw [hp2] at this
            exact this.symm
          · rw [List.getElem?_eq_none (show X.length ≤ i by omega), List.getElem?_eq_none (by rw [← HL.out]; omega)]
        refine ⟨.int .i64 (ordN last.1.2 (Y[last.1.1]?.getD 0)), ?_, ?_, hBW.trans (belowK_b (w := w) (Nat.le_refl _) W D _ _ (by simp at hD; omega) hK rfl rfl)⟩
        · simp [results, Try.f23, go_sem, hc5]
        · rw [← HN.out]
          have e7 : last.1.1 = X.length - 1 - k' := by rw [e6]
          have e8 : last.1.2 = X[X.length - 1 - k']?.getD 0 := by rw [e6]
          rw [e7, e8] at e3 ⊢
          have hj : X.length - 1 - k' < X.length := by omega
          generalize X.length - 1 - k' = j at *
          rcases Nat.lt_trichotomy (X[j]?.getD 0) (Y[j]?.getD 0) with h | h | h
          · rw [ordN_lt h, ordN_lt (val_lt_at hXw.1 HL.out hj hhigh h)]
          · exact absurd h.symm e3
          · rw [ordN_gt h, ordN_gt (val_lt_at hYw.1 HL.out.symm (by rw [← HL.out]; exact hj) (fun i hi => (hhigh i hi).symm) h)]
    · have hlen' : ((X.length : Int) != (Y.length : Int)) = true := by simp; omega
      go_wp2_with (go_at_call 42; refine (cmp_int_c _ _ _).mono ?_; rintro e w5 ⟨rfl, rfl⟩)
      have hc5 := World.cell?_setCell_same' w5 ⟨w.heap.size + 1, 0, none⟩ (.int .i64 (ordN X.length Y.length)) (by rw [cR]; rfl)
      refine ⟨.int .i64 (ordN X.length Y.length), ?_, ?_, hb4.setCell (p := ⟨w.heap.size + 1, 0, none⟩) (by simp) _⟩
      · simp [results, Try.f23, go_sem, hc5]
      · rw [← HN.out]
        rcases Nat.lt_trichotomy X.length Y.length with h | h | h
        · rw [ordN_lt h, ordN_lt (val_lt_len hXw.1 nY h)]
        · exact absurd h hlen
        · rw [ordN_gt h, ordN_gt (val_lt_len hYw.1 nX h)]

/-- nat.Cmp(a, b): as the numbers stand. -/
theorem cmp_c (va vb : Value) (A B : List Nat) (w : World) (hA : Digs w va A) (hB : Digs w vb B) :
    Calls Try.prog 23 #[va, vb] w fun e w' => e = .returned (.int .i64 (ordN (val A) (val B))) ∧ Below w.heap.size w w' := callsIn_wide.1 (cmp_in 3 (by omega) va vb A B w hA hB)
end Go.Proofs.Ytceonncbflmciaa
