/- nat.divShort. -/
import Derived.Test.YtceonncbflmciaaLow
import Derived.Test.YtceonncbflmciaaDivMath
namespace Go.Proofs.Ytceonncbflmciaa
open Go.RowKit Go.Shelf
attribute [local go_sem] Oper.semAt_some

theorem quo_int (q b : Nat) : ((q : Int) / (b : Int)) % 4294967296 = ((quoN b q : Nat) : Int) := by
  unfold quoN
  rw [Int.natCast_emod, Int.natCast_ediv]
  rfl

theorem pair_int' (q d : Nat) (hq : q < 4294967296) (hd : d < 4294967296) : bits BinOp.or IntKind.u64 ((q : Int) * 4294967296) (d : Int) = ((pairN q d : Nat) : Int) := by
  have h := pair_int q d hd
  rwa [show IntKind.u64.wrap ((q : Int) * 4294967296) = (q : Int) * 4294967296 by rw [IntKind.wrap_u64]; omega] at h

theorem wrap_quo (q b : Nat) (hq : q < 18446744073709551616) : IntKind.u64.wrap ((q : Int) / (b : Int)) = (q : Int) / (b : Int) := by
  have h1 : ((q / b : Nat) : Int) = (q : Int) / (b : Int) := Int.natCast_ediv q b
  have h2 : q / b ≤ q := Nat.div_le_self q b
  rw [← h1, IntKind.wrap_u64]
  generalize q / b = m at *
  omega

theorem box4_world (w : World) (t0 : TypeId) (u0 : Value) (L : Nat) (hL : L ≤ 1000000) (W : World) (hW : W = (((w.alloc (.cells #[u0] t0)).alloc (.cells (madeCells #[Value.int .u32 0] L) 42)).alloc (.cells #[.slice (some ⟨w.heap.size + 1, 0, none⟩) L L] 43)).alloc (.cells #[.int .u64 0] 36)) :
    Own W w.heap.size (.slice (some ⟨w.heap.size + 1, 0, none⟩) L L) (List.replicate L 0) ∧ Boxed W w.heap.size t0 u0 ∧ Boxed W (w.heap.size + 2) 43 (.slice (some ⟨w.heap.size + 1, 0, none⟩) L L) ∧ Boxed W (w.heap.size + 3) 36 (.int .u64 0) ∧ Below w.heap.size w W ∧ W.heap.size = w.heap.size + 4 := by
  subst hW
  have h := made_lc (w.alloc (.cells #[u0] t0)) L L (Nat.le_refl _) hL
  simp only [World.size_alloc] at h
  refine ⟨?_, ?_, ?_, ?_, ?_, by simp⟩
  · exact (h.1.below ((Below.refl _ _).alloc (Nat.le_refl _) _) (Nat.le_refl _)).mono (by omega)
  · exact (((Boxed.new _ _ _).alloc _).alloc _).alloc _
  · exact h.2.1.alloc _
  · have := Boxed.new (((w.alloc (.cells #[u0] t0)).alloc (.cells (madeCells #[Value.int .u32 0] L) 42)).alloc (.cells #[.slice (some ⟨w.heap.size + 1, 0, none⟩) L L] 43)) 36 (.int .u64 0)
    simpa using this
  · exact ((((Below.refl _ w).alloc (Nat.le_refl _) _).alloc (by simp) _).alloc (by simp; omega) _).alloc (by simp; omega) _

/-- What holds between two rounds. -/
abbrev divI (Z : List Nat) (w : World) (b : Nat) : List (It Z) → World → Prop := fun pre W =>
  Boxed W (w.heap.size + 3) 36 (.int .u64 ((divF b Z.length (pre.map (·.1))).1 : Nat)) ∧ Boxed W w.heap.size 42 (.int .u32 (b : Int)) ∧
    (∃ v, Boxed W (w.heap.size + 2) 43 v ∧ W.ownsRow w.heap.size 42 1 v Z.length ((divF b Z.length (pre.map (·.1))).2.map dv) ∧ v = .slice (some ⟨w.heap.size + 1, 0, none⟩) Z.length Z.length) ∧ Below w.heap.size w W
theorem divI_own (Z : List Nat) (w : World) (b B : Nat) (hB : w.heap.size ≤ B) : OwnFrom B (divI Z w b) :=
  OwnFrom.and (Own.from (boxed_own (w.heap.size + 3) 36 (fun pre : List (It Z) => .int .u64 ((divF b Z.length (pre.map (·.1))).1 : Nat))) B)
    (OwnFrom.and (Own.from (boxed_own w.heap.size 42 (fun _ : List (It Z) => .int .u32 (b : Int))) B)
      (OwnFrom.and (Own.from (holdsRow_own w.heap.size (w.heap.size + 2) 43 42 1 (fun _ : List (It Z) => Z.length) (fun pre : List (It Z) => (divF b Z.length (pre.map (·.1))).2.map dv) (fun _ v => v = .slice (some ⟨w.heap.size + 1, 0, none⟩) Z.length Z.length)) B)
        (ownFrom_below (Nat.le_refl _) hB)))

set_option maxRecDepth 100000 in
set_option maxHeartbeats 4000000 in
theorem divShort_in (n : Nat) (hn : 3 ≤ n) (va : Value) (Z : List Nat) (b : Nat) (w : World) (hZ : Digs w va Z) (hlz : Z.length ≤ 100000) (hb0 : 0 < b) (hb : b < 4294967296) :
    CallsIn Fence.wide n Try.prog 38 #[va, .int .u32 (b : Int)] w fun e w' => (∃ v v2, e = .returned (.tuple #[v, v2]) ∧ Num w' w.heap.size v (val Z / b) ∧ Num w' w.heap.size v2 (val Z % b)) ∧ Below w.heap.size w w' := by
  have h1 : 1 ≤ n := by omega
  have hro : Fence.wide.round = none := rfl
  obtain ⟨i0, hi, hz0, hz1, hz2⟩ := info_parts Try.info42
  obtain ⟨aa, ca, rfl, hca⟩ := hZ.shape
  refine callsIn_of_wp_marks Try.func38 rfl trivial ?_ hro
  simp only [Try.ntmps38, List.size_toArray, List.length_cons, List.length_nil, Nat.reduceAdd, Nat.reduceSub, Array.replicate_succ, Array.replicate_zero, List.push_toArray, List.append_toArray, List.nil_append, List.cons_append]
  refine wpIn_mono (Q := noPanic (bodyPostM Fence.wide n Try.prog Try.f38 _)) ?_ noPanic_le
  refine wpIn_wide.2 ?_
  go_wp2_with (first | (at_make; refine wpList_make_lc _ rfl _ _ 43 rfl 42 i0 (.int .u32 0) Try.underlying43 hi hz0 hz1 _ _ _ _ Z.length Z.length rfl rfl (by omega) (by omega) (by omega) (by rw [hz2]; omega) (by omega) ?_) | (go_at_call 34; refine (callsIn_wide.1 (back_in Fence.wide 3 trivial hro _ _ _ _)).mono ?_; rintro e w' ⟨rfl, rfl⟩))
  generalize hW4 : (((w.alloc (.cells #[.int .u32 (b : Int)] 42)).alloc (.cells (madeCells #[Value.int .u32 0] Z.length) 42)).alloc (.cells #[.slice (some ⟨w.heap.size + 1, 0, none⟩) Z.length Z.length] 43)).alloc (.cells #[.int .u64 0] 36) = W4
  obtain ⟨hoW, bP, bD, bQ, hbW, hszW⟩ := box4_world w 42 (.int .u32 (b : Int)) Z.length (by omega) W4 hW4.symm
  clear hW4
  refine (wpIn_wide (n := n)).1 ?_
  have bN := Boxed.new W4 23 (.slice aa Z.length ca)
  rw [hszW] at bN
  have hB5 : Below w.heap.size w (W4.alloc (.cells #[.slice aa Z.length ca] 23)) := hbW.alloc (by omega) _
  refine wpIn_rangeFunc_ownG hro h1 (gf := 45) (lb := #[.pointer (some ⟨w.heap.size + 4, 0, none⟩)]) rfl trivial (enters_of Try.func45 (by kernel_rfl) rfl)
    (back_stops Fence.wide (n - 1) trivial hro (by omega) (w.heap.size + 4) w.heap.size _ Z _ hZ.blk bN.cell (hZ.below hB5 (Nat.le_refl _))) KpB_t (KpB_b (by simp; omega) (by simp; omega)) (Below.refl _ _) (fun _ => rfl)
    (divI Z w b)
    (fun _ _ _ => False)
    (divI_own Z w b _ (by simp; omega))
    (fun _ _ _ _ _ hs _ _ => hs)
    ⟨bQ.alloc _, bP.alloc _, ⟨_, bD.alloc _, by have := hoW.2.2.alloc (.cells #[.slice aa Z.length ca] 23); rw [List.length_replicate] at this; exact this, rfl⟩, hB5⟩
    (fun x => { tmps := #[.slice aa Z.length ca, .int .u32 (b : Int), undef, .pointer (some ⟨w.heap.size, 0, none⟩), .slice none 0 0, .slice none 0 0, .pointer (some ⟨w.heap.size + 1 + 1, 0, none⟩), .pointer (some ⟨w.heap.size + 1 + 1 + 1, 0, none⟩), .int .i64 (x.1.1 : Int), .int .u32 (x.1.2 : Int), .slice aa Z.length ca, .int .i64 (Z.length : Int), .slice (some ⟨w.heap.size + 1, 0, none⟩) Z.length Z.length, .slice aa Z.length ca, .func (.func 45) #[] #[.pointer (some ⟨w.heap.size + 1 + 1 + 1 + 1, 0, none⟩)], .int .i64 (x.1.1 : Int), .int .u32 (x.1.2 : Int), undef, undef, undef, undef, undef, undef, undef, undef, undef, undef, undef, undef, undef, undef, undef, undef, undef, undef, undef, undef], defers := [] }) ?assign ?body ?done ?stop
  case assign =>
    intro l x W K hK
    gi_wp2
    exact hK
  case body =>
    rintro l pre x W ⟨hQ, hP, ⟨v, hD, hrow, rfl⟩, hBW⟩ _
    have hx1 := x.2.1
    have hxs : x.1.2 < 4294967296 := by rw [← x.2.2]; exact small_getD hZ.1 _
    have hqs : (divF b Z.length (pre.map (·.1))).1 < b := divF_lt _ _ _ hb0
    have cQ := hQ.cell
    have fQ := hQ.frozen
    have cP := hP.cell
    have cD := hD.cell
    have hmx : Try.prog.follows .mixedOrders = true := by kernel_rfl
    have h1' : 1 ≤ n - 1 - 1 := by omega
    obtain ⟨q, hq⟩ : ∃ q, (divF b Z.length (pre.map (·.1))).1 = q := ⟨_, rfl⟩
    rw [hq] at hQ hqs cQ
    have HQ : Hid ((divF b Z.length (pre.map (·.1))).1 = q) := hq
    clear hq
    gi_wp2
    rw [pair_int' q x.1.2 (by omega) hxs]
    have hq1 : pairN q x.1.2 < 18446744073709551616 := pairN_lt _ _ hxs
    have hQ1 := hQ.set (.int .u64 ((pairN q x.1.2 : Nat) : Int))
    have hP1 := hP.other (B' := w.heap.size + 3) (by omega) (.int .u64 ((pairN q x.1.2 : Nat) : Int))
    have hD1 := hD.other (B' := w.heap.size + 3) (by omega) (.int .u64 ((pairN q x.1.2 : Nat) : Int))
    have hrow1 := hrow.kept (grownBy_setCell' W (w.heap.size + 3) (.int .u64 ((pairN q x.1.2 : Nat) : Int))) (.inr (hQ.not_row (by decide) hrow).symm)
    have hKo : KeepsOthers W (W.setCell ⟨w.heap.size + 3, 0, none⟩ (.int .u64 ((pairN q x.1.2 : Nat) : Int))) := KeepsOthers.setCell _ _ _
    have hKp : KpB w.heap.size (w.heap.size + 4) W (W.setCell ⟨w.heap.size + 3, 0, none⟩ (.int .u64 ((pairN q x.1.2 : Nat) : Int))) := (KpB.refl _ _ _).setCell (by simp) (by simp) _
    clear cQ fQ cP cD hQ hP hD hrow
    generalize W.setCell ⟨w.heap.size + 3, 0, none⟩ (.int .u64 ((pairN q x.1.2 : Nat) : Int)) = W1 at *
    obtain ⟨q1, hq1e⟩ : ∃ q1, pairN q x.1.2 = q1 := ⟨_, rfl⟩
    rw [hq1e] at hQ1 hq1 ⊢
    have HQ1 : Hid (pairN q x.1.2 = q1) := hq1e
    clear hq1e
    have cQ := hQ1.cell
    have fQ := hQ1.frozen
    have cP := hP1.cell
    have cD := hD1.cell
    have hdl : (divF b Z.length (pre.map (·.1))).2.length = Z.length := divF_length _ _ _
    obtain ⟨u, hu⟩ : ∃ u, W1.cell? ⟨w.heap.size + 1, x.1.1, none⟩ = some u := ⟨_, (hrow1.cellAt x.1.1 (by omega)).trans (List.getElem?_eq_getElem (by rw [List.length_map, hdl]; exact hx1))⟩
    have hfz := hrow1.frozenAt x.1.1
    have hb1 : (1 : Int) ≤ (b : Int) := by omega
    have hbn : ¬ b = 0 := by omega
    have hwb : IntKind.u64.wrap (b : Int) = (b : Int) := by rw [IntKind.wrap_u64]; omega
    have hwq := wrap_quo q1 b hq1
    have hfin : KeepsFrom (W4.alloc (.cells #[.slice aa Z.length ca] 23)).heap.size W ((W1.setCell ⟨w.heap.size + 1, x.1.1, none⟩ (.int .u32 ((q1 : Int) / (b : Int) % 4294967296))).setCell ⟨w.heap.size + 1 + 1 + 1, 0, none⟩ (.int .u64 ((q1 : Int) % (b : Int)))).drew ∧ KpB w.heap.size (w.heap.size + 4) W ((W1.setCell ⟨w.heap.size + 1, x.1.1, none⟩ (.int .u32 ((q1 : Int) / (b : Int) % 4294967296))).setCell ⟨w.heap.size + 1 + 1 + 1, 0, none⟩ (.int .u64 ((q1 : Int) % (b : Int)))).drew ∧ divI Z w b (pre ++ [x]) ((W1.setCell ⟨w.heap.size + 1, x.1.1, none⟩ (.int .u32 ((q1 : Int) / (b : Int) % 4294967296))).setCell ⟨w.heap.size + 1 + 1 + 1, 0, none⟩ (.int .u64 ((q1 : Int) % (b : Int)))).drew := by
      rw [quo_int, show ((q1 : Int) % (b : Int)) = ((q1 % b : Nat) : Int) from (Int.natCast_emod q1 b).symm]
      have hrow2 := (hrow1.stored x.1.1 (dv (quoN b q1))).1
      have hst := (hrow1.stored x.1.1 (dv (quoN b q1))).2
      have hbg : some (w.heap.size + 2) ≠ some (w.heap.size + 1) := by simp
      have g1 := hQ1.kept hst (by simp)
      have g2 := hP1.kept hst (by simp)
      have g3 := hD1.kept hst hbg
      have hrow3 := hrow2.kept (grownBy_setCell' _ (w.heap.size + 3) (.int .u64 ((q1 % b : Nat) : Int))) (.inr (g1.not_row (by decide) hrow2).symm)
      have f1 := g1.set (.int .u64 ((q1 % b : Nat) : Int))
      have f2 := g2.other (B' := w.heap.size + 3) (by omega) (.int .u64 ((q1 % b : Nat) : Int))
      have f3 := g3.other (B' := w.heap.size + 3) (by omega) (.int .u64 ((q1 % b : Nat) : Int))
      have k1 := (hKp.setCell (p := ⟨w.heap.size + 1, x.1.1, none⟩) (by simp) (by simp) (.int .u32 ((quoN b q1 : Nat) : Int))).setCell (p := ⟨w.heap.size + 3, 0, none⟩) (by simp) (by simp) (.int .u64 ((q1 % b : Nat) : Int))
      refine ⟨(((hKo.trans (KeepsOthers.setCell _ _ _)).trans (KeepsOthers.setCell _ _ _)).trans (KeepsOthers.drew _)).from _, ⟨k1.1.drew, k1.2⟩, ?_⟩
      have e1 : pre.map (·.1) ++ [x.1] = (pre ++ [x]).map (·.1) := by simp
      have e2 := divF_snoc b Z.length (pre.map (·.1)) x.1
      rw [e1] at e2
      have e3 : (divF b Z.length ((pre ++ [x]).map (·.1))).1 = q1 % b := by rw [e2, ← HQ1.out, ← HQ.out]; rfl
      have e4 : (divF b Z.length ((pre ++ [x]).map (·.1))).2 = (divF b Z.length (pre.map (·.1))).2.set x.1.1 (quoN b q1) := by rw [e2, ← HQ1.out, ← HQ.out]; rfl
      refine ⟨?_, f2, ⟨_, f3, ?_, rfl⟩, (hBW.trans k1.1).drew⟩
      · rw [e3]; exact f1
      · rw [e4, List.map_set]; exact hrow3
    clear hdl hQ1 hP1 hD1 hrow1 hKo hKp
    gi_region_with_o (fail)
    all_goals gi_wp2
    all_goals (try go_bits)
    all_goals exact hfin
  case done =>
    rintro D ys W hD hys ⟨hQ, hP, ⟨v, hDb, hrow, rfl⟩, hBW⟩ hK
    obtain ⟨a1, a2, a3⟩ := divF_all b hb0 (by omega) Z hZ.1
    have hdl := divF_length b Z.length (seqB Z Z.length)
    rw [hys] at hrow hQ
    rw [a1] at hQ
    have ho : Own W w.heap.size (.slice (some ⟨w.heap.size + 1, 0, none⟩) Z.length Z.length) (divF b Z.length (seqB Z Z.length)).2 := ⟨a3, by rw [hdl]; omega, by rw [hdl]; exact hrow⟩
    have HA2 : Hid (val (divF b Z.length (seqB Z Z.length)).2 = val Z / b) := a2
    have hr1 : val Z % b < b := Nat.mod_lt _ hb0
    have cQ := hQ.cell
    clear a1 a2 a3 hdl hrow hys
    generalize (divF b Z.length (seqB Z Z.length)).2 = ds at *
    obtain ⟨r, hr⟩ : ∃ r, val Z % b = r := ⟨_, rfl⟩
    rw [hr] at hQ cQ hr1
    have HR : Hid (val Z % b = r) := hr
    clear hr
    go_wp2
    go_region_held3 (fun w' => w'.cell? ⟨w.heap.size + 1 + 1 + 1, 0, none⟩ = some (.int .u64 (r : Int))) (first | exact cQ | assumption) ((first | (go_at_call 30; refine (number_c _ (w.heap.size + 2) w.heap.size (.slice (some ⟨w.heap.size + 1, 0, none⟩) Z.length Z.length) ds ?_ ?_).mono ?_; exact hDb; exact ho.below ((Below.refl _ W).drew) (Nat.le_refl _); rintro e w5 ⟨⟨v5, rfl, ho5⟩, hb5⟩; have hb5' : Below W.heap.size W w5 := ((Below.refl _ W).drew).trans hb5; have s1 : w5.cell? ⟨w.heap.size + 1 + 1 + 1, 0, none⟩ = some (.int .u64 (r : Int)) := (hb5'.cell (p := ⟨w.heap.size + 3, 0, none⟩) hQ.lt).trans cQ) | (go_at_call 22; refine (from_c r (by omega) _).mono ?_; rintro e w6 ⟨⟨v6, rfl, ho6⟩, hb6⟩; have hb6' : Below W.heap.size W w6 := hb5'.trans (hb6.mono hb5'.size); have s2 : w6.cell? ⟨w.heap.size + 1 + 1 + 1, 0, none⟩ = some (.int .u64 (r : Int)) := (hb6'.cell (p := ⟨w.heap.size + 3, 0, none⟩) hQ.lt).trans cQ)))
    all_goals go_wp2
    all_goals have hDlt : D < W.heap.size := (Array.getElem?_eq_some_iff.1 hK).1
    all_goals have hK6 : w6.heap[D]? = some (.deferred (some [])) := (hb6'.block D hDlt).trans hK
    all_goals refine ⟨by simp, .inl ⟨_, _, rfl, run_takeDeferred hK6, ?_⟩⟩
    all_goals have hn5 := ((ho5.num HA2.out).below hb6 (Nat.le_refl _)).putObj (.deferred none) hK6 rfl
    all_goals have hn6 := ho6.putObj (.deferred none) hK6 rfl
    all_goals refine ⟨_, results_tmp2 rfl _ _ _, ⟨v5, v6, rfl, hn5, ?_⟩, (hBW.trans (hb6'.mono hBW.size)).trans (belowK_b (w := w) (Nat.le_refl _) _ D _ _ (by simp at hD; omega) hK6 rfl rfl)⟩
    all_goals (rw [HR.out]; exact hn6.mono (by have := hb5'.size; have := hBW.size; omega))
  case stop =>
    rintro D c pre W _ _ h _
    exact h.elim

theorem divShort_c (va : Value) (Z : List Nat) (b : Nat) (w : World) (hZ : Digs w va Z) (hlz : Z.length ≤ 100000) (hb0 : 0 < b) (hb : b < 4294967296) :
    Calls Try.prog 38 #[va, .int .u32 (b : Int)] w fun e w' => (∃ v v2, e = .returned (.tuple #[v, v2]) ∧ Num w' w.heap.size v (val Z / b) ∧ Num w' w.heap.size v2 (val Z % b)) ∧ Below w.heap.size w w' := callsIn_wide.1 (divShort_in 3 (by omega) va Z b w hZ hlz hb0 hb)
end Go.Proofs.Ytceonncbflmciaa
