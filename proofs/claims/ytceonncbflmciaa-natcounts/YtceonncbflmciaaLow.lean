/- nat.Low. -/
import Derived.Test.YtceonncbflmciaaShr
namespace Go.Proofs.Ytceonncbflmciaa
open Go.RowKit Go.Shelf
attribute [local go_sem] Oper.semAt_some

def lowF (l : List (Nat × Nat)) : Nat := l.foldl (fun q x => pairN q x.2) 0
theorem lowF_snoc (l : List (Nat × Nat)) (x : Nat × Nat) : lowF (l ++ [x]) = pairN (lowF l) x.2 := by simp [lowF]
theorem lowF_all (X : List Nat) (hX : small X) (h : X.length ≤ 2) : lowF (seqB X X.length) = val X := by
  match X, hX, h with
  | [], _, _ => rfl
  | [a], hX, _ =>
    have := (small_cons.1 hX).1
    have e : seqB [a] [a].length = [(0, a)] := rfl
    rw [e]
    simp only [lowF, List.foldl_cons, List.foldl_nil, pairN, val]
    omega
  | [a, b], hX, _ =>
    have h1 := (small_cons.1 hX).1
    have h2 := (small_cons.1 (small_cons.1 hX).2).1
    have e : seqB [a, b] [a, b].length = [(1, b), (0, a)] := rfl
    rw [e]
    simp only [lowF, List.foldl_cons, List.foldl_nil, pairN, val]
    omega
  | _ :: _ :: _ :: _, _, h => simp at h

set_option maxRecDepth 100000 in
set_option maxHeartbeats 4000000 in
theorem low_no (va : Value) (A : List Nat) (w : World) (hA : Digs w va A) (hv : 18446744073709551616 ≤ val A) :
    Calls Try.prog 26 #[va] w fun e w' => e = .returned (.tuple #[.int .u64 0, .bool false]) ∧ Below w.heap.size w w' := by
  obtain ⟨aa, ca, rfl, hca⟩ := hA.shape
  have hX := hA.trim'
  have hl : 2 < (trimL A).length := by
    apply Classical.byContradiction
    intro h
    have h1 := val_lt hX.1
    rw [val_trimL] at h1
    have h2 : (4294967296 : Nat) ^ (trimL A).length ≤ 4294967296 ^ 2 := Nat.pow_le_pow_right (by omega) (by omega)
    omega
  have hlt : (2 : Int) < ((trimL A).length : Int) := by omega
  refine (callsIn_wide (n := 3)).1 ?_
  refine callsIn_of_wp_marks Try.func26 rfl trivial ?_ rfl
  simp only [Try.ntmps26, List.size_toArray, List.length_cons, List.length_nil, Nat.reduceAdd, Nat.reduceSub, Array.replicate_succ, Array.replicate_zero, List.push_toArray, List.append_toArray, List.nil_append, List.cons_append]
  refine wpIn_wide.2 ?_
  have bX := Boxed.new w 36 (.int .u64 0)
  have hB0 : Below w.heap.size w (w.alloc (.cells #[.int .u64 0] 36)) := (Below.refl _ w).alloc (Nat.le_refl _) _
  go_wp2_with fail
  refine (trim_d _ _ _ _ (hA.below hB0 (Nat.le_refl _))).mono ?_
  rintro e w2 ⟨rfl, hbw⟩
  have bX2 := boxed_below bX hbw (Nat.le_refl _)
  have cX := bX2.cell
  have fX := bX2.frozen
  have hs := hbw.size
  go_wp2
  have hc5 := World.cell?_setCell_same' w2 ⟨w.heap.size, 0, none⟩ (.int .u64 0) (by rw [cX]; rfl)
  refine ⟨.tuple #[.int .u64 0, .bool false], ?_, rfl, (hB0.trans (hbw.mono (by simp))).setCell (p := ⟨w.heap.size, 0, none⟩) (Nat.le_refl _) _⟩
  simp [results, Try.f26, go_sem, hc5]

set_option maxRecDepth 100000 in
set_option maxHeartbeats 4000000 in
theorem low_in (n : Nat) (hn : 3 ≤ n) (va : Value) (A : List Nat) (w : World) (hA : Digs w va A) (hv : val A < 18446744073709551616) :
    CallsIn Fence.wide n Try.prog 26 #[va] w fun e w' => e = .returned (.tuple #[.int .u64 (val A : Nat), .bool true]) ∧ Below w.heap.size w w' := by
  have h1 : 1 ≤ n := by omega
  have hro : Fence.wide.round = none := rfl
  obtain ⟨aa, ca, rfl, hca⟩ := hA.shape
  have hX := hA.trim'
  have hl : (trimL A).length ≤ 2 := length_le_of_lt (norm_trimL A) (by rw [val_trimL]; omega)
  have hlt : ((trimL A).length : Int) ≤ 2 := by omega
  have HN : Hid (val (trimL A) = val A) := val_trimL A
  generalize val A = N at *
  refine callsIn_of_wp_marks Try.func26 rfl trivial ?_ rfl
  simp only [Try.ntmps26, List.size_toArray, List.length_cons, List.length_nil, Nat.reduceAdd, Nat.reduceSub, Array.replicate_succ, Array.replicate_zero, List.push_toArray, List.append_toArray, List.nil_append, List.cons_append]
  refine wpIn_wide.2 ?_
  have bX := Boxed.new w 36 (.int .u64 0)
  have hB0 : Below w.heap.size w (w.alloc (.cells #[.int .u64 0] 36)) := (Below.refl _ w).alloc (Nat.le_refl _) _
  go_wp2_with fail
  refine (trim_d _ _ _ _ (hA.below hB0 (Nat.le_refl _))).mono ?_
  rintro e w2 ⟨rfl, hbw⟩
  have bX2 := boxed_below bX hbw (Nat.le_refl _)
  have hs := hbw.size
  have hbw2 : Below w.heap.size w w2 := hB0.trans (hbw.mono (by simp))
  generalize trimL A = X at *
  have hd3 : decide ((2 : Int) < (X.length : Int)) = false := by simp; omega
  go_wp2_with (go_at_call 34; refine (callsIn_wide.1 (back_in Fence.wide 3 trivial hro _ _ _ _)).mono ?_; rintro e w' ⟨rfl, rfl⟩)
  refine (wpIn_wide (n := n)).1 ?_
  have bN := Boxed.new w2 23 (.slice aa X.length ca)
  have hB5 : Below w.heap.size w (w2.alloc (.cells #[.slice aa X.length ca] 23)) := hbw2.alloc hbw2.size _
  have hltX : w.heap.size < w2.heap.size := bX2.lt
  refine wpIn_rangeFunc_ownG hro h1 (gf := 45) (lb := #[.pointer (some ⟨w2.heap.size, 0, none⟩)]) rfl trivial (enters_of Try.func45 (by kernel_rfl) rfl)
    (back_stops Fence.wide (n - 1) trivial hro (by omega) w2.heap.size w.heap.size _ X _ hX.blk bN.cell (hX.below hB5 (Nat.le_refl _))) KpB_t (KpB_b (by simp; omega) (by simp)) (Below.refl _ _) (fun _ => rfl)
    (fun pre W => Boxed W w.heap.size 36 (.int .u64 (lowF (pre.map (·.1)) : Nat)) ∧ Below w.heap.size w W)
    (fun _ _ _ => False)
    (OwnFrom.and (Own.from (boxed_own w.heap.size 36 (fun pre : List (It X) => .int .u64 (lowF (pre.map (·.1)) : Nat))) _) (ownFrom_below (Nat.le_refl _) (by simp; omega)))
    (fun _ _ _ _ _ hs _ _ => hs)
    ⟨bX2.alloc _, hB5⟩
    (fun x => { tmps := #[.slice aa X.length ca, undef, .pointer (some ⟨w.heap.size, 0, none⟩), .bool false, undef, .int .u32 (x.1.2 : Int), .slice aa A.length ca, .slice aa X.length ca, .slice aa X.length ca, .int .i64 (X.length : Int), .bool false, .slice aa X.length ca, .func (.func 45) #[] #[.pointer (some ⟨w2.heap.size, 0, none⟩)], .int .i64 (x.1.1 : Int), .int .u32 (x.1.2 : Int), undef, undef, undef, undef, undef, undef], defers := [] }) ?assign ?body ?done ?stop
  case assign =>
    intro l x W K hK
    gi_wp2
    exact hK
  case body =>
    rintro l pre x W ⟨hQ, hBW⟩ _
    have hxs : x.1.2 < 4294967296 := by rw [← x.2.2]; exact small_getD hX.1 _
    have e1 : lowF ((pre ++ [x]).map (·.1)) = pairN (lowF (pre.map (·.1))) x.1.2 := by
      rw [← lowF_snoc]; simp
    have HE1 : Hid (lowF ((pre ++ [x]).map (·.1)) = pairN (lowF (pre.map (·.1))) x.1.2) := e1
    clear e1
    have cQ := hQ.cell
    have fQ := hQ.frozen
    generalize lowF (pre.map (·.1)) = q at *
    gi_wp2
    rw [pair_int q x.1.2 hxs]
    exact ⟨(KeepsOthers.setCell _ _ _).from _, (KpB.refl _ _ _).setCell (p := ⟨w.heap.size, 0, none⟩) (Nat.le_refl _) (by simp; omega) _, by rw [HE1.out]; exact hQ.set _, hBW.setCell (p := ⟨w.heap.size, 0, none⟩) (Nat.le_refl _) _⟩
  case done =>
    rintro D ys W hD hys ⟨hQ, hBW⟩ hK
    rw [hys, lowF_all X hX.1 hl, HN.out] at hQ
    have cQ := hQ.cell
    have fQ := hQ.frozen
    go_wp2
    have hK' := (KeepsOthers.setCell W ⟨w.heap.size, 0, none⟩ (.int .u64 (N : Int))).same D _ hK rfl
    refine ⟨by simp, .inl ⟨_, _, rfl, run_takeDeferred hK', ?_⟩⟩
    have hc5 := cell_kept (World.cell?_setCell_same' W ⟨w.heap.size, 0, none⟩ (.int .u64 (N : Int)) (by rw [cQ]; rfl)) (grownBy_putObj' _ D (.deferred none)) (fun r e => by cases e; exact ⟨_, hK', rfl⟩)
    refine ⟨.tuple #[.int .u64 (N : Int), .bool true], ?_, rfl, (hBW.setCell (p := ⟨w.heap.size, 0, none⟩) (Nat.le_refl _) _).trans (belowK_b (w := w) (Nat.le_refl _) _ D _ _ (by simp at hD; omega) hK' rfl rfl)⟩
    simp [results, Try.f26, go_sem, hc5]
  case stop =>
    rintro D c pre W _ _ h _
    exact h.elim

theorem low_c (va : Value) (A : List Nat) (w : World) (hA : Digs w va A) (hv : val A < 18446744073709551616) :
    Calls Try.prog 26 #[va] w fun e w' => e = .returned (.tuple #[.int .u64 (val A : Nat), .bool true]) ∧ Below w.heap.size w w' := callsIn_wide.1 (low_in 3 (by omega) va A w hA hv)
end Go.Proofs.Ytceonncbflmciaa
