/- nat.Shr. -/
import Derived.Shelf.RegionOpen
import Derived.Deep.RegionHeld3
import Derived.BigQuiet
import Derived.Test.YtceonncbflmciaaUp
import Derived.Test.YtceonncbflmciaaShrMath
namespace Go.Proofs.Ytceonncbflmciaa
open Go.RowKit Go.Shelf
attribute [local go_sem] Oper.semAt_some

set_option maxHeartbeats 1000000 in
theorem shr_no (va : Value) (A : List Nat) (k : Int) (w : World) (hA : Digs w va A) (hk : k < 0 ∨ 100000 < k) :
    Calls Try.prog 9 #[va, .int .i64 k] w fun e w' => e = .returned (.tuple #[.slice none 0 0, .bool false]) ∧ w' = w := by
  obtain ⟨aa, ca, rfl, hca⟩ := hA.shape
  refine (callsIn_wide (n := 3)).1 ?_
  refine callsIn_of_wp_marks Try.func9 rfl trivial ?_ rfl
  simp only [Try.ntmps9, List.size_toArray, List.length_cons, List.length_nil, Nat.reduceAdd, Nat.reduceSub, Array.replicate_succ, Array.replicate_zero, List.push_toArray, List.append_toArray, List.nil_append, List.cons_append]
  refine wpIn_wide.2 ?_
  rcases hk with hk | hk
  · go_wp2
    exact ⟨_, results_tmp2 rfl _ _ _, rfl, rfl⟩
  · have hk2 : ¬ k < 0 := by omega
    go_wp2
    exact ⟨_, results_tmp2 rfl _ _ _, rfl, rfl⟩

theorem shr_world (w : World) (p L : Nat) (hL : L ≤ 1000000) (W : World) (hW : W = (((w.alloc (.cells #[.int .i64 (p : Int)] 3)).alloc (.cells (madeCells #[Value.int .u32 0] L) 42)).alloc (.cells #[.slice (some ⟨w.heap.size + 1, 0, none⟩) L L] 43)).alloc (.cells #[.int .u64 0] 36)) :
    Own W w.heap.size (.slice (some ⟨w.heap.size + 1, 0, none⟩) L L) (List.replicate L 0) ∧ Boxed W w.heap.size 3 (.int .i64 (p : Int)) ∧ Boxed W (w.heap.size + 2) 43 (.slice (some ⟨w.heap.size + 1, 0, none⟩) L L) ∧ Boxed W (w.heap.size + 3) 36 (.int .u64 0) ∧ Below w.heap.size w W ∧ W.heap.size = w.heap.size + 4 := by
  subst hW
  have h := made_lc (w.alloc (.cells #[.int .i64 (p : Int)] 3)) L L (Nat.le_refl _) hL
  simp only [World.size_alloc] at h
  refine ⟨?_, ?_, ?_, ?_, ?_, by simp⟩
  · exact (h.1.below ((Below.refl _ _).alloc (Nat.le_refl _) _) (Nat.le_refl _)).mono (by omega)
  · exact (((Boxed.new _ _ _).alloc _).alloc _).alloc _
  · exact h.2.1.alloc _
  · have := Boxed.new (((w.alloc (.cells #[.int .i64 (p : Int)] 3)).alloc (.cells (madeCells #[Value.int .u32 0] L) 42)).alloc (.cells #[.slice (some ⟨w.heap.size + 1, 0, none⟩) L L] 43)) 36 (.int .u64 0)
    simpa using this
  · exact ((((Below.refl _ w).alloc (Nat.le_refl _) _).alloc (by simp) _).alloc (by simp; omega) _).alloc (by simp; omega) _

theorem pair_int (q d : Nat) (hd : d < 4294967296) : bits BinOp.or IntKind.u64 (IntKind.u64.wrap ((q : Int) * 4294967296)) (d : Int) = ((pairN q d : Nat) : Int) := by
  have h3 : IntKind.u64.wrap ((q : Int) * 4294967296) = ((q * 4294967296 % 18446744073709551616 : Nat) : Int) := by
    rw [IntKind.wrap_u64]; omega
  have h4 : q * 4294967296 % 18446744073709551616 = 2 ^ 32 * (q % 4294967296) := by omega
  rw [h3, h4, u64_or_nat _ _ (by omega) (by omega), ← Nat.two_pow_add_eq_or_of_lt (show d < 2 ^ 32 by omega)]
  unfold pairN
  rw [h4]
theorem dig_int (q p : Nat) : ((q : Int) / 2 ^ p) % 4294967296 = ((digN p q : Nat) : Int) := by
  unfold digN
  rw [Int.natCast_emod, Int.natCast_ediv, Int.natCast_pow]
  rfl

theorem and_int (q k : Nat) (hq : q < 18446744073709551616) : bits BinOp.and IntKind.u64 (q : Int) (IntKind.u64.wrap (IntKind.u64.wrap (2 ^ ((k : Int) % 32).toNat) - 1)) = ((q % 2 ^ (k % 32) : Nat) : Int) := by
  have h1 : ((k : Int) % 32).toNat = k % 32 := by omega
  rw [h1]
  have hp : k % 32 < 32 := Nat.mod_lt _ (by omega)
  generalize k % 32 = p at *
  have h2 : (2 : Nat) ^ p ≤ 2 ^ 32 := Nat.pow_le_pow_right (by omega) (by omega)
  have h3 : 0 < (2 : Nat) ^ p := Nat.pow_pos (by omega)
  have h4 : IntKind.u64.wrap (2 ^ p) = ((2 ^ p : Nat) : Int) := by
    have e : ((2 : Int) ^ p) = ((2 ^ p : Nat) : Int) := by simp
    rw [e, IntKind.wrap_u64]; omega
  have h5 : IntKind.u64.wrap (((2 ^ p : Nat) : Int) - 1) = ((2 ^ p - 1 : Nat) : Int) := by rw [IntKind.wrap_u64]; omega
  rw [h4, h5, u64_and_nat _ _ hq (by omega), Nat.and_two_pow_sub_one_eq_mod]

theorem two_mod (a b p : Nat) (hp : p < 32) : two a b % 2 ^ p = b % 2 ^ p := by
  unfold two
  rw [Nat.add_comm, show (4294967296 : Nat) = 2 ^ p * 2 ^ (32 - p) by rw [← Nat.pow_add, show p + (32 - p) = 32 from by omega], ← Nat.mul_assoc, Nat.mul_comm a, Nat.mul_assoc, Nat.add_mul_mod_self_left]

theorem Num.putObj {W : World} {base : Nat} {v : Value} {N D : Nat} {o : Obj} (o' : Obj) (h : Num W base v N) (hK : W.heap[D]? = some o) (ho : o.isCells = false) : Num (W.putObj D o') base v N := by
  obtain ⟨ds, ⟨h1, h2, h3⟩, h4, h5⟩ := h
  exact ⟨ds, ⟨h1, h2, ownsRow_putObj h3 _ hK ho⟩, h4, h5⟩

/-- What holds between two rounds. -/
abbrev shrI (Z : List Nat) (w w2 : World) (p : Nat) : List (It Z) → World → Prop := fun pre W =>
  Boxed W (w2.heap.size + 3) 36 (.int .u64 ((shrF p Z.length (pre.map (·.1))).1 : Nat)) ∧ Boxed W w2.heap.size 3 (.int .i64 (p : Int)) ∧
    (∃ v, Boxed W (w2.heap.size + 2) 43 v ∧ W.ownsRow w2.heap.size 42 1 v Z.length ((shrF p Z.length (pre.map (·.1))).2.map dv) ∧ v = .slice (some ⟨w2.heap.size + 1, 0, none⟩) Z.length Z.length) ∧ Below w.heap.size w W
theorem shrI_own (Z : List Nat) (w w2 : World) (p B : Nat) (hB : w.heap.size ≤ B) : OwnFrom B (shrI Z w w2 p) :=
  OwnFrom.and (Own.from (boxed_own (w2.heap.size + 3) 36 (fun pre : List (It Z) => .int .u64 ((shrF p Z.length (pre.map (·.1))).1 : Nat))) B)
    (OwnFrom.and (Own.from (boxed_own w2.heap.size 3 (fun _ : List (It Z) => .int .i64 (p : Int))) B)
      (OwnFrom.and (Own.from (holdsRow_own w2.heap.size (w2.heap.size + 2) 43 42 1 (fun _ : List (It Z) => Z.length) (fun pre : List (It Z) => (shrF p Z.length (pre.map (·.1))).2.map dv) (fun _ v => v = .slice (some ⟨w2.heap.size + 1, 0, none⟩) Z.length Z.length)) B)
        (ownFrom_below (Nat.le_refl _) hB)))

set_option maxRecDepth 100000 in
set_option maxHeartbeats 4000000 in
theorem shr_in (n : Nat) (hn : 3 ≤ n) (va : Value) (A : List Nat) (k : Nat) (w : World) (hA : Digs w va A) (hla : A.length ≤ 100000) (hk : k ≤ 100000) :
    CallsIn Fence.wide n Try.prog 9 #[va, .int .i64 (k : Int)] w fun e w' => (∃ v, e = .returned (.tuple #[v, .bool (decide (val A % 2 ^ k = 0))]) ∧ Num w' w.heap.size v (val A / 2 ^ k)) ∧ Below w.heap.size w w' := by
  have h1 : 1 ≤ n := by omega
  have hro : Fence.wide.round = none := rfl
  obtain ⟨i0, hi, hz0, hz1, hz2⟩ := info_parts Try.info42
  obtain ⟨aa, ca, rfl, hca⟩ := hA.shape
  have hX := hA.trim'
  have nX := norm_trimL A
  have hlx : (trimL A).length ≤ 100000 := by rw [length_trimL]; have := sizeL_le A; omega
  have HV : Hid (val (trimL A) / 2 ^ k = val A / 2 ^ k) := by show _ = _; rw [val_trimL]
  have HE : Hid (decide (val (trimL A) % 2 ^ k = 0) = decide (val A % 2 ^ k = 0)) := by show _ = _; rw [val_trimL]
  generalize val A / 2 ^ k = N at *
  generalize decide (val A % 2 ^ k = 0) = E at *
  refine callsIn_of_wp_marks Try.func9 rfl trivial ?_ hro
  simp only [Try.ntmps9, List.size_toArray, List.length_cons, List.length_nil, Nat.reduceAdd, Nat.reduceSub, Array.replicate_succ, Array.replicate_zero, List.push_toArray, List.append_toArray, List.nil_append, List.cons_append]
  refine wpIn_mono (Q := noPanic (bodyPostM Fence.wide n Try.prog Try.f9 _)) ?_ noPanic_le
  refine wpIn_wide.2 ?_
  have hd1 : decide ((k : Int) < 0) = false := by simp
  have hd2 : decide (100000 < (k : Int)) = false := by simp; omega
  go_wp2_with fail
  refine (trim_d _ _ _ _ hA).mono ?_
  rintro e w2 ⟨rfl, hbw⟩
  have hs0 := hbw.size
  generalize trimL A = X at *
  by_cases hwl : X.length ≤ k / 32
  · have hwl' : (X.length : Int) ≤ (k : Int) / 32 := by omega
    have hd3 : decide ((X.length : Int) ≤ (k : Int) / 32) = true := by simp; omega
    have hlt : val X < 2 ^ k := by
      have h2 := val_lt hX.1
      have h3 : (4294967296 : Nat) ^ X.length ≤ 4294967296 ^ (k / 32) := Nat.pow_le_pow_right (by omega) hwl
      have h4 := pow_split k
      have h5 : 0 < (2 : Nat) ^ (k % 32) := Nat.pow_pos (by omega)
      have h6 : (4294967296 : Nat) ^ (k / 32) * 1 ≤ 4294967296 ^ (k / 32) * 2 ^ (k % 32) := Nat.mul_le_mul_left _ h5
      omega
    have HN0 : Hid (N = 0) := by show N = 0; rw [← HV.out]; exact Nat.div_eq_of_lt hlt
    have HE0 : Hid (decide (val X = 0) = E) := by show _ = E; rw [← HE.out, Nat.mod_eq_of_lt hlt]
    by_cases hx0 : X.length = 0
    · have hx0' : ((X.length : Int) == 0) = true := by rw [hx0]; rfl
      have HX0 : Hid (X.length = 0) := hx0
      clear hx0
      go_wp2
      refine ⟨_, results_tmp2 rfl _ _ _, ⟨_, ?_, by rw [HN0.out]; exact Num.nil _ _⟩, hbw.alloc hs0 _⟩
      rw [← HE0.out, List.length_eq_zero_iff.1 HX0.out]
      rfl
    · have hx0' : ((X.length : Int) == 0) = false := by apply beq_eq_false_iff_ne.2; omega
      have HX0 : Hid (¬ X.length = 0) := hx0
      clear hx0
      go_wp2
      refine ⟨_, results_tmp2 rfl _ _ _, ⟨_, ?_, by rw [HN0.out]; exact Num.nil _ _⟩, hbw.alloc hs0 _⟩
      rw [← HE0.out, decide_eq_false (fun h => HX0.out (by rw [val_zero_nil nX h]; rfl))]
      rfl
  · have hwl' : (k : Int) / 32 < (X.length : Int) := by omega
    have hwl2 : k / 32 < X.length := by omega
    have hd3 : decide ((X.length : Int) ≤ (k : Int) / 32) = false := by simp; omega
    obtain ⟨b1, o1, c1, e1, hb1, hc1⟩ := hX.cell (by omega)
    obtain ⟨rfl, rfl⟩ : aa = some ⟨b1, o1, none⟩ ∧ ca = c1 := by simpa using e1
    have hcaX : X.length ≤ ca := by
      obtain ⟨_, c2, e2, hc2⟩ := hX.shape
      obtain ⟨_, rfl⟩ : _ ∧ ca = c2 := by simpa using e2
      exact hc2
    have hca2 : k / 32 < ca := by omega
    go_wp2_with (first | (at_make; refine wpList_make_lc _ rfl _ _ 43 rfl 42 i0 (.int .u32 0) Try.underlying43 hi hz0 hz1 _ _ _ _ (X.length - k / 32) (X.length - k / 32) rfl rfl (by omega) (by omega) (by omega) (by rw [hz2]; omega) (by omega) ?_) | (go_at_call 34; refine (callsIn_wide.1 (back_in Fence.wide 3 trivial hro _ _ _ _)).mono ?_; rintro e w' ⟨rfl, rfl⟩))
    have eL : X.length - k / 32 = (X.drop (k / 32)).length := by simp
    have hZ : Digs w (.slice (some ⟨b1, o1 + k / 32, none⟩) (X.drop (k / 32)).length (ca - k / 32)) (X.drop (k / 32)) := by
      refine ⟨small_drop _ hX.1, by simp; omega, .inr ⟨b1, o1 + k / 32, ca - k / 32, rfl, by simp; omega, fun j hj => ?_⟩⟩
      rw [getD_drop]
      have := hc1 (k / 32 + j) (by simp at hj; omega)
      rwa [← Nat.add_assoc] at this
    rw [show ((k : Int) / 32) = ((k / 32 : Nat) : Int) from by omega, show ((k : Int) % 32) = ((k % 32 : Nat) : Int) from by omega, eL]
    have HZ : Hid (X.drop (k / 32) = X.drop (k / 32)) := rfl
    have hLpos : 0 < (X.drop (k / 32)).length := by simp; omega
    have hLle : (X.drop (k / 32)).length ≤ 1000000 := by simp; omega
    have hb1' : b1 < w.heap.size := hb1
    generalize hZe : X.drop (k / 32) = Z at *
    have HZe : Hid (X.drop (k / 32) = Z) := hZe
    have hpt : k % 32 < 32 := Nat.mod_lt _ (by omega)
    clear hZe HZ eL hc1
    generalize hW4 : (((w2.alloc (.cells #[.int .i64 ((k % 32 : Nat) : Int)] 3)).alloc (.cells (madeCells #[Value.int .u32 0] Z.length) 42)).alloc (.cells #[.slice (some ⟨w2.heap.size + 1, 0, none⟩) Z.length Z.length] 43)).alloc (.cells #[.int .u64 0] 36) = W4
    obtain ⟨hoW, bP, bD, bQ, hbW, hszW⟩ := shr_world w2 (k % 32) Z.length hLle W4 hW4.symm
    clear hW4
    refine (wpIn_wide (n := n)).1 ?_
    have bN := Boxed.new W4 23 (.slice (some ⟨b1, o1 + k / 32, none⟩) Z.length (ca - k / 32))
    rw [hszW] at bN
    have hB5 : Below w.heap.size w (W4.alloc (.cells #[.slice (some ⟨b1, o1 + k / 32, none⟩) Z.length (ca - k / 32)] 23)) := (hbw.trans (hbW.mono hs0)).alloc (by omega) _
    have hszW2 : w.heap.size ≤ W4.heap.size := by omega
    refine wpIn_rangeFunc_ownG hro h1 (gf := 45) (lb := #[.pointer (some ⟨w2.heap.size + 4, 0, none⟩)]) rfl trivial (enters_of Try.func45 (by kernel_rfl) rfl)
      (back_stops Fence.wide (n - 1) trivial hro (by omega) (w2.heap.size + 4) w.heap.size _ Z _ hZ.blk bN.cell (hZ.below hB5 (Nat.le_refl _))) KpB_t (KpB_b (by simp; omega) (by simp; omega)) (Below.refl _ _) (fun _ => rfl)
      (shrI Z w w2 (k % 32))
      (fun _ _ _ => False)
      (shrI_own Z w w2 (k % 32) _ (by simp; omega))
      (fun _ _ _ _ _ hs _ _ => hs)
      ⟨bQ.alloc _, bP.alloc _, ⟨_, bD.alloc _, by have := hoW.2.2.alloc (.cells #[.slice (some ⟨b1, o1 + k / 32, none⟩) Z.length (ca - k / 32)] 23); rw [List.length_replicate] at this; exact this, rfl⟩, hB5⟩
      (fun x => { tmps := #[.slice (some ⟨b1, o1, none⟩) X.length ca, .int .i64 (k : Int), undef, undef, .slice none 0 0, .bool false, .int .i64 ((k / 32 : Nat) : Int), .pointer (some ⟨w2.heap.size, 0, none⟩), .pointer (some ⟨w2.heap.size + 1 + 1, 0, none⟩), .pointer (some ⟨w2.heap.size + 1 + 1 + 1, 0, none⟩), .int .i64 (x.1.1 : Int), .int .u32 (x.1.2 : Int), .int .i64 (k : Int), .bool false, .bool false, .int .i64 (k : Int), .bool false, .bool false, .slice (some ⟨b1, o1, none⟩) A.length ca, .slice (some ⟨b1, o1, none⟩) X.length ca, .int .i64 (k : Int), .int .i64 ((k / 32 : Nat) : Int), .int .i64 (k : Int), .int .i64 ((k % 32 : Nat) : Int), .int .i64 ((k / 32 : Nat) : Int), .slice (some ⟨b1, o1, none⟩) X.length ca, .int .i64 (X.length : Int), .bool false, undef, undef, undef, .slice (some ⟨b1, o1, none⟩) X.length ca, .int .i64 (X.length : Int), .int .i64 ((k / 32 : Nat) : Int), .int .i64 ((X.length : Int) - ((k / 32 : Nat) : Int)), .slice (some ⟨w2.heap.size + 1, 0, none⟩) Z.length Z.length, .slice (some ⟨b1, o1, none⟩) X.length ca, .int .i64 ((k / 32 : Nat) : Int), .slice (some ⟨b1, o1 + k / 32, none⟩) Z.length (ca - k / 32), .func (.func 45) #[] #[.pointer (some ⟨w2.heap.size + 1 + 1 + 1 + 1, 0, none⟩)], .int .i64 (x.1.1 : Int), .int .u32 (x.1.2 : Int), undef, undef, undef, undef, undef, undef, undef, undef, undef, undef, undef, undef, undef, undef, undef, undef, undef, undef, undef, undef, undef, undef, undef, undef, undef, undef, undef], defers := [] }) ?assign ?body ?done ?stop
    case assign =>
      intro l x W K hK
      gi_wp2
      exact hK
    case body =>
      rintro l pre x W ⟨hQ, hP, ⟨v, hD, hrow, rfl⟩, hBW⟩ _
      have hx1 := x.2.1
      have hxs : x.1.2 < 4294967296 := by rw [← x.2.2]; exact small_getD hZ.1 _
      have hqs : (shrF (k % 32) Z.length (pre.map (·.1))).1 < 18446744073709551616 := shrF_lt _ _ _ (fun y hy => by obtain ⟨z, _, rfl⟩ := List.mem_map.1 hy; rw [← z.2.2]; exact small_getD hZ.1 _)
      have cQ := hQ.cell
      have fQ := hQ.frozen
      have cP := hP.cell
      have cD := hD.cell
      have hmx : Try.prog.follows .mixedOrders = true := by kernel_rfl
      have h1' : 1 ≤ n - 1 - 1 := by omega
      obtain ⟨q, hq⟩ : ∃ q, (shrF (k % 32) Z.length (pre.map (·.1))).1 = q := ⟨_, rfl⟩
      rw [hq] at hQ hqs cQ
      have HQ : Hid ((shrF (k % 32) Z.length (pre.map (·.1))).1 = q) := hq
      clear hq
      gi_wp2
      rw [pair_int q x.1.2 hxs]
      have hq1 : pairN q x.1.2 < 18446744073709551616 := pairN_lt _ _ hxs
      have hQ1 := hQ.set (.int .u64 ((pairN q x.1.2 : Nat) : Int))
      have hP1 := hP.other (B' := w2.heap.size + 3) (by omega) (.int .u64 ((pairN q x.1.2 : Nat) : Int))
      have hD1 := hD.other (B' := w2.heap.size + 3) (by omega) (.int .u64 ((pairN q x.1.2 : Nat) : Int))
      have hrow1 := hrow.kept (grownBy_setCell' W (w2.heap.size + 3) (.int .u64 ((pairN q x.1.2 : Nat) : Int))) (.inr (hQ.not_row (by decide) hrow).symm)
      have hKo : KeepsOthers W (W.setCell ⟨w2.heap.size + 3, 0, none⟩ (.int .u64 ((pairN q x.1.2 : Nat) : Int))) := KeepsOthers.setCell _ _ _
      have hKp : KpB w.heap.size (w2.heap.size + 4) W (W.setCell ⟨w2.heap.size + 3, 0, none⟩ (.int .u64 ((pairN q x.1.2 : Nat) : Int))) := (KpB.refl _ _ _).setCell (by simp; omega) (by simp) _
      clear cQ fQ cP cD hQ hP hD hrow
      generalize W.setCell ⟨w2.heap.size + 3, 0, none⟩ (.int .u64 ((pairN q x.1.2 : Nat) : Int)) = W1 at *
      obtain ⟨q1, hq1e⟩ : ∃ q1, pairN q x.1.2 = q1 := ⟨_, rfl⟩
      rw [hq1e] at hQ1 hq1 ⊢
      have HQ1 : Hid (pairN q x.1.2 = q1) := hq1e
      clear hq1e
      have cQ := hQ1.cell
      have cP := hP1.cell
      have cD := hD1.cell
      have hdl : (shrF (k % 32) Z.length (pre.map (·.1))).2.length = Z.length := shrF_length _ _ _
      obtain ⟨u, hu⟩ : ∃ u, W1.cell? ⟨w2.heap.size + 1, x.1.1, none⟩ = some u := ⟨_, (hrow1.cellAt x.1.1 (by omega)).trans (List.getElem?_eq_getElem (by rw [List.length_map, hdl]; exact hx1))⟩
      have hfz := hrow1.frozenAt x.1.1
      have hrow2 := (hrow1.stored x.1.1 (dv (digN (k % 32) q1))).1
      have hst := (hrow1.stored x.1.1 (dv (digN (k % 32) q1))).2
      have hbg : some (w2.heap.size + 2) ≠ some (w2.heap.size + 1) := by simp
      have hfin : KeepsFrom (W4.alloc (.cells #[.slice (some ⟨b1, o1 + k / 32, none⟩) Z.length (ca - k / 32)] 23)).heap.size W (W1.setCell ⟨w2.heap.size + 1, x.1.1, none⟩ (.int .u32 ((digN (k % 32) q1 : Nat) : Int))).drew ∧ KpB w.heap.size (w2.heap.size + 4) W (W1.setCell ⟨w2.heap.size + 1, x.1.1, none⟩ (.int .u32 ((digN (k % 32) q1 : Nat) : Int))).drew ∧ shrI Z w w2 (k % 32) (pre ++ [x]) (W1.setCell ⟨w2.heap.size + 1, x.1.1, none⟩ (.int .u32 ((digN (k % 32) q1 : Nat) : Int))).drew := by
        refine ⟨((hKo.trans (KeepsOthers.setCell _ _ _)).trans (KeepsOthers.drew _)).from _, ?_, ?_⟩
        · have := hKp.setCell (p := ⟨w2.heap.size + 1, x.1.1, none⟩) (by simp; omega) (by simp) (.int .u32 ((digN (k % 32) q1 : Nat) : Int))
          exact ⟨this.1.drew, this.2⟩
        · have e1 : pre.map (·.1) ++ [x.1] = (pre ++ [x]).map (·.1) := by simp
          have e2 := shrF_snoc (k % 32) Z.length (pre.map (·.1)) x.1
          rw [e1] at e2
          have e3 : (shrF (k % 32) Z.length ((pre ++ [x]).map (·.1))).1 = q1 := by rw [e2, ← HQ1.out, ← HQ.out]; rfl
          have e4 : (shrF (k % 32) Z.length ((pre ++ [x]).map (·.1))).2 = (shrF (k % 32) Z.length (pre.map (·.1))).2.set x.1.1 (digN (k % 32) q1) := by rw [e2, ← HQ1.out, ← HQ.out]; rfl
          have g1 := hQ1.kept hst (by simp)
          have g2 := hP1.kept hst (by simp)
          have g3 := hD1.kept hst hbg
          refine ⟨?_, ?_, ⟨_, ?_, ?_, rfl⟩, ?_⟩
          · rw [e3]; exact g1
          · exact g2
          · exact g3
          · rw [e4, List.map_set]; exact hrow2
          · have := hBW.trans hKp.1
            exact (this.setCell (p := ⟨w2.heap.size + 1, x.1.1, none⟩) (by simp; omega) _).drew
      rw [← dig_int] at hfin
      clear hdl hrow2 hst hQ1 hP1 hD1 hrow1 hKo hKp
      gi_region_with_o (fail)
      all_goals gi_wp2
      all_goals (try go_bits)
      all_goals exact hfin
    case done =>
      rintro D ys W hD hys ⟨hQ, hP, ⟨v, hDb, hrow, rfl⟩, hBW⟩ hK
      have hall := shrF_all (k % 32) Z hZ.1 hLpos
      rw [hys, hall.1] at hrow
      rw [hys, hall.2] at hQ
      have hqs : two (Z[1]?.getD 0) (Z[0]?.getD 0) < 18446744073709551616 := by
        have a := small_getD hZ.1 1
        have b := small_getD hZ.1 0
        unfold two; omega
      have ho : Own W w2.heap.size (.slice (some ⟨w2.heap.size + 1, 0, none⟩) Z.length Z.length) (shrL (k % 32) Z) := ⟨small_shrL _ _, by rw [shrL_length]; exact hLle, by rw [shrL_length]; exact hrow⟩
      have cQ := hQ.cell
      have cP := hP.cell
      have cD := hDb.cell
      obtain ⟨q, hq⟩ : ∃ q, two (Z[1]?.getD 0) (Z[0]?.getD 0) = q := ⟨_, rfl⟩
      rw [hq] at hQ hqs cQ
      have HQ : Hid (two (Z[1]?.getD 0) (Z[0]?.getD 0) = q) := hq
      have hexa : q % 2 ^ (k % 32) = Z[0]?.getD 0 % 2 ^ (k % 32) := by rw [← hq]; exact two_mod _ _ _ hpt
      have hiff := shr_exact X k hX.1 hwl2
      have hnum := shr_val X k hX.1 (Nat.le_of_lt hwl2)
      rw [HZe.out, ← hexa] at hiff
      rw [HZe.out, HV.out] at hnum
      have HIFF : Hid (val X % 2 ^ k = 0 ↔ q % 2 ^ (k % 32) = 0 ∧ sizeL (X.take (k / 32)) = 0) := hiff
      have HNUM : Hid (val (shrL (k % 32) Z) = N) := hnum
      clear hrow hall hys hq hexa hiff hnum
      have HG := and_int q k hqs
      have hXw : Digs W (.slice (some ⟨b1, o1, none⟩) (k / 32) ca) (X.take (k / 32)) := by
        have hXW := hX.below hBW (Nat.le_refl _)
        refine ⟨small_take _ hX.1, by simp; omega, .inr ⟨b1, o1, ca, by simp; omega, by simp; omega, fun j hj => ?_⟩⟩
        simp only [List.length_take] at hj
        rw [getD_take, if_pos (by omega)]
        obtain ⟨_, _, ⟨e, _⟩ | ⟨b', o', c', e, _, hcc⟩⟩ := hXW
        · simp at e
        · simp only [Value.slice.injEq, Option.some.injEq, Addr.mk.injEq, and_true] at e
          obtain ⟨⟨rfl, rfl⟩, _, _⟩ := e
          exact hcc j (by omega)
      have hXv : Digs W (.slice (some ⟨b1, o1, none⟩) ((k : Int) / 32).toNat ca) (X.take (k / 32)) := by rw [show ((k : Int) / 32).toNat = k / 32 from by omega]; exact hXw
      by_cases hg : q % 2 ^ (k % 32) = 0
      · have hg' : (bits BinOp.and IntKind.u64 (q : Int) (IntKind.u64.wrap (IntKind.u64.wrap (2 ^ ((k : Int) % 32).toNat) - 1)) == 0) = true := by rw [HG, hg]; rfl
        have HGY : Hid (q % 2 ^ (k % 32) = 0) := hg
        clear HG hg
        have hs1 : (0 : Int) ≤ (k : Int) / 32 := by omega
        have hs2 : (k : Int) / 32 ≤ (ca : Int) := by omega
        by_cases hz : sizeL (X.take (k / 32)) = 0
        · have hz' : ((sizeL (X.take (k / 32)) : Int) == 0) = true := by rw [hz]; rfl
          have HZZ : Hid (sizeL (X.take (k / 32)) = 0) := hz
          clear hz
          go_wp2
          go_region_held3 (fun w' => w'.cell? ⟨w2.heap.size + 1 + 1 + 1, 0, none⟩ = some (.int .u64 (q : Int)) ∧ w'.cell? ⟨w2.heap.size, 0, none⟩ = some (.int .i64 ((k % 32 : Nat) : Int))) (first | exact ⟨cQ, cP⟩ | exact ⟨by assumption, by assumption⟩) ((go_at_call 35; refine (size_c _ (X.take (k / 32)) _ ?_).mono ?_; exact hXv.below ((Below.refl _ W).drew) (Nat.le_refl _); rintro e w5 ⟨rfl, hb5⟩; have hb5' : Below W.heap.size W w5 := ((Below.refl _ W).drew).trans hb5; have s1 : w5.cell? ⟨w2.heap.size + 1 + 1 + 1, 0, none⟩ = some (.int .u64 (q : Int)) := (hb5'.cell (p := ⟨w2.heap.size + 3, 0, none⟩) hQ.lt).trans cQ; have s2 : w5.cell? ⟨w2.heap.size, 0, none⟩ = some (.int .i64 ((k % 32 : Nat) : Int)) := (hb5'.cell (p := ⟨w2.heap.size, 0, none⟩) hP.lt).trans cP))
          all_goals (go_wp2_with fail)
          all_goals (refine (number_c w5 (w2.heap.size + 2) w2.heap.size _ _ (boxed_below hDb hb5' (Nat.le_refl _)) (ho.below hb5' (Nat.le_refl _))).mono ?_)
          all_goals rintro e w6 ⟨⟨v6, rfl, ho6⟩, hb6⟩
          all_goals have hb7 : Below W.heap.size W w6 := hb5'.trans (hb6.mono hb5'.size)
          all_goals go_wp2
          all_goals have hDlt : D < W.heap.size := (Array.getElem?_eq_some_iff.1 hK).1
          all_goals have hK6 : w6.heap[D]? = some (.deferred (some [])) := (hb7.block D hDlt).trans hK
          all_goals refine ⟨by simp, .inl ⟨_, _, rfl, run_takeDeferred hK6, ?_⟩⟩
          all_goals have hnum := (ho6.num HNUM.out).putObj (.deferred none) hK6 rfl
          all_goals refine ⟨_, results_tmp2 rfl _ _ _, ⟨_, ?_, hnum.mono hs0⟩, (hBW.trans (hb7.mono hBW.size)).trans (belowK_b (w := w) (Nat.le_refl _) _ D _ _ (by simp at hD; omega) hK6 rfl rfl)⟩
          all_goals rw [show E = true by rw [← HE.out]; exact decide_eq_true (HIFF.out.2 ⟨HGY.out, HZZ.out⟩)]
          all_goals rfl
        · have hz' : ((sizeL (X.take (k / 32)) : Int) == 0) = false := by apply beq_eq_false_iff_ne.2; omega
          have HZZ : Hid (¬ sizeL (X.take (k / 32)) = 0) := hz
          clear hz
          go_wp2
          go_region_held3 (fun w' => w'.cell? ⟨w2.heap.size + 1 + 1 + 1, 0, none⟩ = some (.int .u64 (q : Int)) ∧ w'.cell? ⟨w2.heap.size, 0, none⟩ = some (.int .i64 ((k % 32 : Nat) : Int))) (first | exact ⟨cQ, cP⟩ | exact ⟨by assumption, by assumption⟩) ((go_at_call 35; refine (size_c _ (X.take (k / 32)) _ ?_).mono ?_; exact hXv.below ((Below.refl _ W).drew) (Nat.le_refl _); rintro e w5 ⟨rfl, hb5⟩; have hb5' : Below W.heap.size W w5 := ((Below.refl _ W).drew).trans hb5; have s1 : w5.cell? ⟨w2.heap.size + 1 + 1 + 1, 0, none⟩ = some (.int .u64 (q : Int)) := (hb5'.cell (p := ⟨w2.heap.size + 3, 0, none⟩) hQ.lt).trans cQ; have s2 : w5.cell? ⟨w2.heap.size, 0, none⟩ = some (.int .i64 ((k % 32 : Nat) : Int)) := (hb5'.cell (p := ⟨w2.heap.size, 0, none⟩) hP.lt).trans cP))
          all_goals (go_wp2_with fail)
          all_goals (refine (number_c w5 (w2.heap.size + 2) w2.heap.size _ _ (boxed_below hDb hb5' (Nat.le_refl _)) (ho.below hb5' (Nat.le_refl _))).mono ?_)
          all_goals rintro e w6 ⟨⟨v6, rfl, ho6⟩, hb6⟩
          all_goals have hb7 : Below W.heap.size W w6 := hb5'.trans (hb6.mono hb5'.size)
          all_goals go_wp2
          all_goals have hDlt : D < W.heap.size := (Array.getElem?_eq_some_iff.1 hK).1
          all_goals have hK6 : w6.heap[D]? = some (.deferred (some [])) := (hb7.block D hDlt).trans hK
          all_goals refine ⟨by simp, .inl ⟨_, _, rfl, run_takeDeferred hK6, ?_⟩⟩
          all_goals have hnum := (ho6.num HNUM.out).putObj (.deferred none) hK6 rfl
          all_goals refine ⟨_, results_tmp2 rfl _ _ _, ⟨_, ?_, hnum.mono hs0⟩, (hBW.trans (hb7.mono hBW.size)).trans (belowK_b (w := w) (Nat.le_refl _) _ D _ _ (by simp at hD; omega) hK6 rfl rfl)⟩
          all_goals rw [show E = false by rw [← HE.out]; apply decide_eq_false; rw [HIFF.out]; intro h; exact HZZ.out h.2]
          all_goals rfl
      · have hg' : (bits BinOp.and IntKind.u64 (q : Int) (IntKind.u64.wrap (IntKind.u64.wrap (2 ^ ((k : Int) % 32).toNat) - 1)) == 0) = false := by
          rw [HG]
          apply beq_eq_false_iff_ne.2
          omega
        have HGN : Hid (¬ q % 2 ^ (k % 32) = 0) := hg
        clear HG hg
        go_wp2
        go_quiet (fail)
        go_wp2_with fail
        have hbd : Below W.heap.size W (W.drewN nq) := below_drewN (Below.refl _ _) nq
        refine (number_c (W.drewN nq) (w2.heap.size + 2) w2.heap.size _ _ (boxed_below hDb hbd (Nat.le_refl _)) (ho.below hbd (Nat.le_refl _))).mono ?_
        rintro e w6 ⟨⟨v6, rfl, ho6⟩, hb6⟩
        have hb7 : Below W.heap.size W w6 := hbd.trans (hb6.mono hbd.size)
        go_wp2
        have hDlt : D < W.heap.size := (Array.getElem?_eq_some_iff.1 hK).1
        have hK6 : w6.heap[D]? = some (.deferred (some [])) := (hb7.block D hDlt).trans hK
        refine ⟨by simp, .inl ⟨_, _, rfl, run_takeDeferred hK6, ?_⟩⟩
        have hnum := (ho6.num HNUM.out).putObj (.deferred none) hK6 rfl
        refine ⟨_, results_tmp2 rfl _ _ _, ⟨_, ?_, hnum.mono hs0⟩, (hBW.trans (hb7.mono hBW.size)).trans (belowK_b (w := w) (Nat.le_refl _) _ D _ _ (by simp at hD; omega) hK6 rfl rfl)⟩
        rw [show E = false by rw [← HE.out]; apply decide_eq_false; rw [HIFF.out]; intro h; exact HGN.out h.1]
        rfl
    case stop =>
      rintro D c pre W _ _ h _
      exact h.elim

/-- nat.Shr(n, k): n divided by 2 to the power of k, and whether nothing is lost. -/
theorem shr_c (va : Value) (A : List Nat) (k : Int) (w : World) (hA : Digs w va A) (hla : A.length ≤ 100000) (hk0 : 0 ≤ k) (hk : k ≤ 100000) :
    Calls Try.prog 9 #[va, .int .i64 k] w fun e w' => (∃ v, e = .returned (.tuple #[v, .bool (decide (val A % 2 ^ k.toNat = 0))]) ∧ Num w' w.heap.size v (val A / 2 ^ k.toNat)) ∧ Below w.heap.size w w' := by
  obtain ⟨n, rfl⟩ := Int.eq_ofNat_of_zero_le hk0
  rw [Int.toNat_natCast]
  exact callsIn_wide.1 (shr_in 3 (by omega) va A n w hA hla (by omega))
end Go.Proofs.Ytceonncbflmciaa
