/- nat.divLong. -/
import Derived.Shelf.RegionOpen
import Derived.Test.YtceonncbflmciaaIterD
import Derived.Test.YtceonncbflmciaaDivS
import Derived.Test.YtceonncbflmciaaLongMath
namespace Go.Proofs.Ytceonncbflmciaa
open Go.RowKit Go.Shelf
attribute [local go_sem] Oper.semAt_some

theorem lay0_c (w : World) (B n₀ : Nat) (v : Value) (ds : List Nat) (hB : Boxed w B 43 v) (ho : Own w n₀ v ds) (hl : ds.length + 1 ≤ 1000000) (hn : n₀ ≤ B) :
    Calls Try.prog 29 #[.pointer (some ⟨B, 0, none⟩), .int .u64 0] w fun e w' => e = .returned (.int .u64 0) ∧ (∃ v', Boxed w' B 43 v' ∧ Own w' n₀ v' (ds ++ [0])) ∧ Below n₀ w w' := lay_c w B n₀ v ds 0 hB ho hl hn

theorem Own.setBox {W : World} {n₀ B t : Nat} {v u u' : Value} {ds : List Nat} (h : Own W n₀ v ds) (hB : Boxed W B t u) (ht : t ≠ 42) : Own (W.setCell ⟨B, 0, none⟩ u') n₀ v ds :=
  ⟨h.1, h.2.1, h.2.2.kept (grownBy_setCell' W B u') (.inr (hB.not_row ht h.2.2).symm)⟩

theorem Own.shape {W : World} {n₀ : Nat} {v : Value} {ds : List Nat} (h : Own W n₀ v ds) (h0 : 0 < ds.length) : ∃ g cap, v = .slice (some ⟨g, 0, none⟩) ds.length cap ∧ n₀ ≤ g ∧ g < W.heap.size ∧ ds.length ≤ cap := by
  obtain ⟨_, _, _, ⟨_, e⟩ | ⟨g, cap, cur, e, hb, hg, hn, _, _, _⟩⟩ := h
  · omega
  · exact ⟨g, cap, e, hb, (Array.getElem?_eq_some_iff.1 hg).1, hn⟩

theorem Own.abides {W W' : World} {n₀ : Nat} {v : Value} {ds : List Nat} {row : Option Nat} (h : Own W n₀ v ds) (hg : W.grownBy W' row) (hr : ∀ r, row = some r → ∃ o, W.heap[r]? = some o ∧ o.isCells = false) : Own W' n₀ v ds := by
  refine ⟨h.1, h.2.1, h.2.2.kept hg ?_⟩
  rcases h.2.2.2 with ⟨rfl, _⟩ | ⟨g, cap, cur, rfl, _, hgb, _⟩
  · exact .inl rfl
  · refine .inr fun e' => ?_
    obtain ⟨o, ho, hc⟩ := hr g (by simpa [Value.ownBlock] using e'.symm)
    rw [hgb] at ho; cases ho; cases hc
theorem Own.other {W W' : World} {n₀ g g' n cap : Nat} {ds : List Nat} (h : Own W n₀ (.slice (some ⟨g, 0, none⟩) n cap) ds) (hg : W.grownBy W' (some g')) (hne : g ≠ g') : Own W' n₀ (.slice (some ⟨g, 0, none⟩) n cap) ds :=
  ⟨h.1, h.2.1, h.2.2.kept hg (.inr (by simpa [Value.ownBlock] using hne))⟩

/-- How far the division has come. -/
def longS (L U0 V : Nat) (idx : List Nat) (Ls Ds : List Nat) : Prop := ∀ j, j ≤ L → idx = idxB L j → U0 = val Ls + V * (4294967296 ^ (L - j) * val (Ds.drop (L - j))) ∧ val (Ls.drop (L - j)) < V
theorem longS_step {L U0 V i t n : Nat} {pre : List Nat} {Ls Ds M' : List Nat} (hs : small Ls) (hlen : Ls.length = L + n) (hi : i < L) (hV : V < 4294967296 ^ n) (hDl : Ds.length = L) (hpl : pre.length < L) (h : longS L U0 V pre Ls Ds)
    (hM' : M'.length = ((Ls.drop i).take (n + 1)).length) (hsem : val ((Ls.drop i).take (n + 1)) < 4294967296 * V → t = val ((Ls.drop i).take (n + 1)) / V ∧ val M' = val ((Ls.drop i).take (n + 1)) % V) :
    longS L U0 V (pre ++ [i]) (Ls.take i ++ M' ++ Ls.drop (i + (n + 1))) (Ds.set i t) := by
  intro j hj he
  have hjl := congrArg List.length he
  rw [idxB_length, List.length_append] at hjl
  simp only [List.length_cons, List.length_nil] at hjl
  obtain ⟨j', rfl⟩ : ∃ j', j = j' + 1 := ⟨j - 1, by omega⟩
  rw [idxB_succ] at he
  obtain ⟨he1, he2⟩ := List.append_inj' he rfl
  have hij : i = L - 1 - j' := by simpa using he2
  obtain ⟨g1, g2⟩ := h j' (by omega) he1
  rw [show L - j' = i + 1 by omega] at g1 g2
  rw [show L - (j' + 1) = i by omega]
  obtain ⟨s1, s2⟩ := long_step hs (by omega) hV g1 g2
  obtain ⟨t1, t2⟩ := hsem s1
  obtain ⟨r1, r2⟩ := s2 M' t (by rw [hM']; simp; omega) t1 t2
  refine ⟨?_, r2⟩
  rw [drop_cons_getD (Ds.set i t) i (by rw [List.length_set]; omega), List.getElem?_set_self (by omega), Option.getD_some, List.drop_set_of_lt (by omega), val]
  exact r1

/-- What holds between two rounds. -/
abbrev longI (L U0 V n₀ nb gd bB bL gl lenL cl : Nat) (vb : Value) (Bs : List Nat) (w : World) : List (ItD L) → World → Prop := fun pre W =>
  (Boxed W bB 23 vb ∧ Boxed W bL 43 (.slice (some ⟨gl, 0, none⟩) lenL cl) ∧ Boxed W (gd + 1) 43 (.slice (some ⟨gd, 0, none⟩) L L) ∧
    (∃ Ls Ds, Ls.length = lenL ∧ Ds.length = L ∧ Own W n₀ (.slice (some ⟨gl, 0, none⟩) lenL cl) Ls ∧ Own W gd (.slice (some ⟨gd, 0, none⟩) L L) Ds ∧ longS L U0 V (pre.map (·.1.1)) Ls Ds) ∧ Own W nb vb Bs ∧ gd + 2 < W.heap.size) ∧ Below w.heap.size w W
theorem longI_own (L U0 V n₀ nb gd bB bL gl lenL cl : Nat) (vb : Value) (Bs : List Nat) (w : World) (B : Nat) (hB : w.heap.size ≤ B) : OwnFrom B (longI L U0 V n₀ nb gd bB bL gl lenL cl vb Bs w) :=
  OwnFrom.and (Own.from (fun s A C row hs hg hr => by
    obtain ⟨h1, h2, h3, ⟨Ls, Ds, e1, e2, o1, o2, hS⟩, o3, hsz⟩ := hs
    exact ⟨boxed_own bB 23 (fun _ : List (ItD L) => vb) s A C row h1 hg hr, boxed_own bL 43 (fun _ : List (ItD L) => .slice (some ⟨gl, 0, none⟩) lenL cl) s A C row h2 hg hr, boxed_own (gd + 1) 43 (fun _ : List (ItD L) => .slice (some ⟨gd, 0, none⟩) L L) s A C row h3 hg hr, ⟨Ls, Ds, e1, e2, o1.abides hg hr, o2.abides hg hr, hS⟩, o3.abides hg hr, Nat.lt_of_lt_of_le hsz hg.size⟩) B) (ownFrom_below (Nat.le_refl _) hB)

/-- Behind a round. -/
theorem long_fin {L U0 V n₀ nb gd bB bL gl gb lenL cl cb i t n BB : Nat} {Bs Ls Ds M' : List Nat} {w W w5 : World} {pre : List (ItD L)} {x : ItD L} (hxi : x.1.1 = i)
    (b1 : Boxed W bB 23 (.slice (some ⟨gb, 0, none⟩) Bs.length cb)) (b2 : Boxed W bL 43 (.slice (some ⟨gl, 0, none⟩) lenL cl)) (b3 : Boxed W (gd + 1) 43 (.slice (some ⟨gd, 0, none⟩) L L))
    (oD : Own W gd (.slice (some ⟨gd, 0, none⟩) L L) Ds) (oB : Own W nb (.slice (some ⟨gb, 0, none⟩) Bs.length cb) Bs) (hsz : gd + 2 < W.heap.size) (hBW : Below w.heap.size w W) (hg : W.grownBy w5 (some gl))
    (oL5 : Own w5 n₀ (.slice (some ⟨gl, 0, none⟩) lenL cl) (Ls.take i ++ M' ++ Ls.drop (i + (n + 1)))) (n1 : bB ≠ gl) (n2 : bL ≠ gl) (n3 : gl < gd) (n4 : gb ≠ gl) (m1 : bB ≠ gd) (m2 : bL ≠ gd) (m4 : gb ≠ gd) (hw : w.heap.size ≤ gl) (hgw : w.heap.size ≤ W.heap.size) (hBB : gl < BB)
    (ht : t < 4294967296) (hll : Ls.length = lenL) (hM : M'.length = ((Ls.drop i).take (n + 1)).length) (hDl : Ds.length = L) (hi : i + n + 1 ≤ lenL)
    (hS : longS L U0 V (pre.map (·.1.1) ++ [i]) (Ls.take i ++ M' ++ Ls.drop (i + (n + 1))) (Ds.set i t)) :
    KeepsFrom BB W (w5.setCell ⟨gd, i, none⟩ (.int .u32 (t : Int))) ∧ KpD (gd + 2) gd L W (w5.setCell ⟨gd, i, none⟩ (.int .u32 (t : Int))) ∧ longI L U0 V n₀ nb gd bB bL gl lenL cl (.slice (some ⟨gb, 0, none⟩) Bs.length cb) Bs w (pre ++ [x]) (w5.setCell ⟨gd, i, none⟩ (.int .u32 (t : Int))) := by
  have hgs := grow_set w5 gd i (.int .u32 (t : Int))
  have oD5 : Own w5 gd (.slice (some ⟨gd, 0, none⟩) L L) Ds := oD.other hg (by omega)
  have oD6 := oD5.store i t ht
  have bk : ∀ {B tt : Nat} {v : Value}, Boxed W B tt v → B ≠ gl → B ≠ gd → Boxed (w5.setCell ⟨gd, i, none⟩ (.int .u32 (t : Int))) B tt v := fun hb e1 e2 => boxed_setOther (hb.kept hg (by simpa using e1)) e2
  refine ⟨(KeepsFrom.of_grownBy hg (fun j e => by cases e; exact hBB)).trans ((KeepsOthers.setCell _ _ _).from _), ⟨?_, fun _ j hj => ⟨_, small_getD oD6.1 j, oD6.cellAt j (by rw [List.length_set]; omega)⟩⟩, ⟨bk b1 n1 m1, bk b2 n2 m2, bk b3 (by omega) (by omega), ⟨_, _, ?_, ?_, oL5.other hgs (by omega), oD6, ?_⟩, (oB.other hg n4).other hgs m4, ?_⟩, ?_⟩
  · have h1 : (w5.setCell ⟨gd, i, none⟩ (.int .u32 (t : Int))).cell? ⟨gd + 2, 0, none⟩ = w5.cell? ⟨gd + 2, 0, none⟩ := World.cell?_of_block (hgs.block (gd + 2) (Nat.lt_of_lt_of_le hsz hg.size) (by simp))
    exact h1.trans (World.cell?_of_block (hg.block (gd + 2) hsz (by simp; omega)))
  · simp only [List.length_append, List.length_take, List.length_drop, hM]; omega
  · rw [List.length_set, hDl]
  · rw [List.map_append, List.map_cons, List.map_nil, hxi]; exact hS
  · exact Nat.lt_of_lt_of_le (Nat.lt_of_lt_of_le hsz hg.size) hgs.size
  · exact (hBW.trans (grow_below hg hgw hw)).setCell (p := ⟨gd, i, none⟩) (by simp; omega) _

set_option maxRecDepth 100000 in
set_option maxHeartbeats 4000000 in
theorem divLong_in (n : Nat) (hn : 3 ≤ n) (va vb : Value) (A N : List Nat) (w : World) (hA : Digs w va A) (hN : Digs w vb N) (nN : norm N) (hl2 : 2 ≤ N.length) (hlN : N.length ≤ A.length) (nA : norm A) (hla : A.length ≤ 50000) :
    CallsIn Fence.wide n Try.prog 39 #[va, vb] w fun e w' => (∃ v v2, e = .returned (.tuple #[v, v2]) ∧ Num w' w.heap.size v (val A / val N) ∧ Num w' w.heap.size v2 (val A % val N)) ∧ Below w.heap.size w w' := by
  have h1 : 1 ≤ n := by omega
  have hro : Fence.wide.round = none := rfl
  obtain ⟨i0, hi, hz0, hz1, hz2⟩ := info_parts Try.info42
  obtain ⟨aa, ca, rfl, hca⟩ := hA.shape
  obtain ⟨bn, on, cn, rfl, hbn, hcn⟩ := hN.cell (by omega)
  have hNl := hN.2.1
  have hct := hcn (N.length - 1) (by omega)
  obtain ⟨top, htop⟩ : ∃ t, N[N.length - 1]?.getD 0 = t := ⟨_, rfl⟩
  have htl : top < 4294967296 := by rw [← htop]; exact small_getD hN.1 _
  rw [htop] at hct
  have HTOP : Hid (N[N.length - 1]?.getD 0 = top) := htop
  have hb32 : Lib.bitLen top ≤ 32 := Lib.bitLen_le _ 32 (by omega) (by omega)
  obtain ⟨r, hr⟩ : ∃ r, 32 - Lib.bitLen top = r := ⟨_, rfl⟩
  have HR : Hid (32 - Lib.bitLen top = r) := hr
  have hr32 : r ≤ 32 := by omega
  clear htop hcn
  refine callsIn_of_wp_marks Try.func39 rfl trivial ?_ hro
  simp only [Try.ntmps39, List.size_toArray, List.length_cons, List.length_nil, Nat.reduceAdd, Nat.reduceSub, Array.replicate_succ, Array.replicate_zero, List.push_toArray, List.append_toArray, List.nil_append, List.cons_append]
  refine wpIn_mono (Q := noPanic (bodyPostM Fence.wide n Try.prog Try.f39 _)) ?_ noPanic_le
  refine wpIn_wide.2 ?_
  have bB := Boxed.new w 23 (.slice (some ⟨bn, on, none⟩) N.length cn)
  have hB0 : Below w.heap.size w (w.alloc (.cells #[.slice (some ⟨bn, on, none⟩) N.length cn] 23)) := (Below.refl _ w).alloc (Nat.le_refl _) _
  have hct0 := (hB0.cell (p := ⟨bn, on + (N.length - 1), none⟩) hbn).trans hct
  have hN0 := hN.below hB0 (Nat.le_refl _)
  have hA0 := hA.below hB0 (Nat.le_refl _)
  have hs0 : (w.alloc (.cells #[.slice (some ⟨bn, on, none⟩) N.length cn] 23)).heap.size = w.heap.size + 1 := by simp
  have cB := bB.cell
  have fB := bB.frozen
  go_wp2_with (go_at_call 46; refine (lead32_c top htl _).mono ?_; rintro e w' ⟨rfl, rfl⟩)
  refine (up_c _ N r _ hN0 (by omega) (by omega)).mono ?_
  rintro e w1 ⟨⟨v1, rfl, Bs, hoB, nBs, hvB⟩, hb1⟩
  obtain ⟨hlB, htB, hVB⟩ := norm_room N Bs hN.1 nN (by omega) hoB.1 nBs (by rw [HTOP.out, HR.out]; exact hvB)
  have HVB : Hid (val Bs = val N * 2 ^ r) := hvB
  have HVL : Hid (val Bs < 4294967296 ^ N.length) := hVB
  rw [hs0] at hoB
  have hs1 := hb1.size
  rw [hs0] at hs1
  have bB1 := boxed_below bB hb1 (Nat.le_refl _)
  have cB1 := bB1.cell
  have fB1 := bB1.frozen
  obtain ⟨gb, cb, rfl, hgb, hgbl, hcbl⟩ := hoB.shape (by omega)
  have HLB : Hid (Bs.length = N.length) := hlB
  have bB2 := bB1.set (.slice (some ⟨gb, 0, none⟩) Bs.length cb)
  have hoB2 := hoB.setBox (u' := .slice (some ⟨gb, 0, none⟩) Bs.length cb) bB1 (by decide)
  have hbw1 : Below w.heap.size w (w1.setCell ⟨w.heap.size, 0, none⟩ (.slice (some ⟨gb, 0, none⟩) Bs.length cb)) := (hB0.trans (hb1.mono (by omega))).setCell (p := ⟨w.heap.size, 0, none⟩) (Nat.le_refl _) _
  have hsz1 : (w1.setCell ⟨w.heap.size, 0, none⟩ (.slice (some ⟨gb, 0, none⟩) Bs.length cb)).heap.size = w1.heap.size := by simp
  clear hvB hVB hlB hN0 hA0 bB hb1 cB fB hct0 hct
  go_wp2_with fail
  generalize w1.setCell ⟨w.heap.size, 0, none⟩ (.slice (some ⟨gb, 0, none⟩) Bs.length cb) = W1 at *
  have hA1 := hA.below hbw1 (Nat.le_refl _)
  refine (up_c _ A r _ hA1 (by omega) (by omega)).mono ?_
  rintro e w2 ⟨⟨v2, rfl, As, hoA, nAs, hvA⟩, hb2⟩
  have HVA : Hid (val As = val A * 2 ^ r) := hvA
  have hs2 := hb2.size
  clear hvA hA1
  -- what was shifted has no fewer digits, and not many more
  have hAl1 : N.length ≤ As.length := by
    apply Classical.byContradiction
    intro hc
    have h2 := val_lt hoA.1
    have h3 := val_ge nA (by omega)
    have h4 : (4294967296 : Nat) ^ As.length ≤ 4294967296 ^ (A.length - 1) := Nat.pow_le_pow_right (by omega) (by omega)
    have h5 : val A * 1 ≤ val A * 2 ^ r := Nat.mul_le_mul_left _ (Nat.pow_pos (by omega))
    rw [HVA.out] at h2
    omega
  have hAl2 : As.length ≤ A.length + 1 := by
    apply length_le_of_lt nAs
    rw [HVA.out, Nat.pow_succ]
    have h2 := val_lt hA.1
    have h3 : (2 : Nat) ^ r ≤ 2 ^ 32 := Nat.pow_le_pow_right (by omega) hr32
    have h4 := Nat.mul_lt_mul_of_lt_of_le h2 h3 (by omega)
    exact h4
  obtain ⟨ga, cA, rfl, hga, _, _⟩ := hoA.shape (by omega)
  have bL := Boxed.new w2 43 (.slice (some ⟨ga, 0, none⟩) As.length cA)
  have hbL : Below w2.heap.size w2 (w2.alloc (.cells #[.slice (some ⟨ga, 0, none⟩) As.length cA] 43)) := (Below.refl _ w2).alloc (Nat.le_refl _) _
  have hoA2 := hoA.below hbL (Nat.le_refl _)
  go_wp2_with fail
  refine (lay0_c _ w2.heap.size W1.heap.size _ As bL hoA2 (by omega) hs2).mono ?_
  rintro e w3 ⟨rfl, ⟨v3, hBL3, hoL3⟩, hb3⟩
  have hb23 : Below W1.heap.size W1 w3 := (hb2.trans (hbL.mono hs2)).trans hb3
  have bB3 := boxed_below bB2 hb23 (Nat.le_refl _)
  have hoB3 := hoB2.below hb23 (Nat.le_refl _)
  have hbw3 : Below w.heap.size w w3 := hbw1.trans (hb23.mono (by omega))
  have hs3 := hb23.size
  obtain ⟨gl, cl, rfl, hgl, hgll, hcll⟩ := hoL3.shape (by simp)
  have eAl : (As ++ [0]).length = As.length + 1 := by simp
  rw [eAl] at hBL3 hoL3 hcll
  have cB3 := bB3.cell
  have cL3 := hBL3.cell
  have hBl1 : Bs.length ≤ As.length := by rw [HLB.out]; exact hAl1
  have hBl2 : 2 ≤ Bs.length := by rw [HLB.out]; exact hl2
  have hAl3 : As.length ≤ 60000 := by omega
  clear bL hbL hoA2 hoA hoB hoB2 bB1 bB2 hb3 hb2 hb23 cB1 fB1
  go_wp2_with (first | (at_make; refine wpList_make_lc _ rfl _ _ 43 rfl 42 i0 (.int .u32 0) Try.underlying43 hi hz0 hz1 _ _ _ _ (As.length + 1 - Bs.length) (As.length + 1 - Bs.length) rfl rfl (by omega) (by omega) (by omega) (by rw [hz2]; omega) (by omega) ?_) | (go_at_call 47; refine (callsIn_wide.1 (backD_in Fence.wide 3 trivial hro _ _ _ _)).mono ?_; rintro e w' ⟨rfl, rfl⟩))
  obtain ⟨L, hL⟩ : ∃ L, As.length + 1 - Bs.length = L := ⟨_, rfl⟩
  have HL : Hid (As.length + 1 - Bs.length = L) := hL
  have hLi : (As.length : Int) + 1 - (Bs.length : Int) = (L : Int) := by omega
  rw [hL, hLi]
  have hLB1 : As.length + 1 ≤ L + Bs.length := by omega
  have hLB2 : L + Bs.length ≤ As.length + 1 := by omega
  have hLle : L ≤ 100000 := by omega
  have hL1 : 1 ≤ L := by omega
  clear hL hLi
  obtain ⟨hoD, hBD, hbD⟩ := made_lc w3 L L (Nat.le_refl _) (by omega)
  have hszD : ((w3.alloc (.cells (madeCells #[Value.int .u32 0] L) 42)).alloc (.cells #[.slice (some ⟨w3.heap.size, 0, none⟩) L L] 43)).heap.size = w3.heap.size + 2 := by simp
  generalize (w3.alloc (.cells (madeCells #[Value.int .u32 0] L) 42)).alloc (.cells #[.slice (some ⟨w3.heap.size, 0, none⟩) L L] 43) = W4 at *
  have hBL4 := boxed_below hBL3 hbD (Nat.le_refl _)
  have bB4 := boxed_below bB3 hbD (Nat.le_refl _)
  have hoL4 := hoL3.below hbD (Nat.le_refl _)
  have hoB4 := hoB3.below hbD (Nat.le_refl _)
  have bN := Boxed.new W4 43 (.slice (some ⟨w3.heap.size, 0, none⟩) L L)
  rw [hszD] at bN
  have hB5 : Below w.heap.size w (W4.alloc (.cells #[.slice (some ⟨w3.heap.size, 0, none⟩) L L] 43)) := (hbw3.trans (hbD.mono (by omega))).alloc (by omega) _
  have hAl : Below W4.heap.size W4 (W4.alloc (.cells #[.slice (some ⟨w3.heap.size, 0, none⟩) L L] 43)) := (Below.refl _ _).alloc (Nat.le_refl _) _
  have hoL5 := hoL4.below hAl (Nat.le_refl _)
  have hoB5 := hoB4.below hAl (Nat.le_refl _)
  have hoD5 := hoD.below hAl (Nat.le_refl _)
  have hrowD : Row (W4.alloc (.cells #[.slice (some ⟨w3.heap.size, 0, none⟩) L L] 43)) w3.heap.size L := fun j hj => ⟨_, small_getD hoD5.1 j, hoD5.cellAt j (by simpa using hj)⟩
  have hszW : (W4.alloc (.cells #[.slice (some ⟨w3.heap.size, 0, none⟩) L L] 43)).heap.size = w3.heap.size + 3 := by rw [World.size_alloc, hszD]
  have hbl2 : w2.heap.size < w3.heap.size := hBL3.lt
  have hS0 : longS L (val (As ++ [0])) (val Bs) [] (As ++ [0]) (List.replicate L 0) := by
    intro j hj he
    have hj0 : j = 0 := by have := congrArg List.length he; rw [idxB_length] at this; simpa using this.symm
    subst hj0
    rw [Nat.sub_zero, List.drop_of_length_le (l := List.replicate L 0) (by simp)]
    refine ⟨by simp [val], ?_⟩
    have h2 : (As ++ [0]).drop L = As.drop L ++ [0] := List.drop_append_of_le_length (by omega)
    have h3 : val (As.drop L ++ [0]) = val (As.drop L) := by rw [val_snoc, Nat.mul_zero, Nat.add_zero]
    have h4 := val_lt (small_drop L (small_append.1 hoL3.1).1)
    have h5 := val_ge nBs (by omega)
    rw [h2, h3]
    rw [List.length_drop, show As.length - L = Bs.length - 1 by omega] at h4
    omega
  refine (wpIn_wide (n := n)).1 ?_
  refine wpIn_rangeFunc_ownG hro h1 (gf := 51) (lb := #[.pointer (some ⟨w3.heap.size + 2, 0, none⟩)]) rfl trivial (enters_of Try.func51 (by kernel_rfl) rfl)
    (backD_stops Fence.wide (n - 1) trivial hro (by omega) (w3.heap.size + 2) w3.heap.size L L (by omega) _ bN.cell (by rw [hszW]; omega) hrowD) KpD_t (KpD_b (by rw [hszW]; omega) (by rw [hszW]; omega)) (Below.refl _ _) (fun _ => rfl)
    (longI L (val (As ++ [0])) (val Bs) W1.heap.size (w.heap.size + 1) w3.heap.size w.heap.size w2.heap.size gl (As.length + 1) cl (.slice (some ⟨gb, 0, none⟩) Bs.length cb) Bs w)
    (fun _ _ _ => False)
    (longI_own L (val (As ++ [0])) (val Bs) W1.heap.size (w.heap.size + 1) w3.heap.size w.heap.size w2.heap.size gl (As.length + 1) cl (.slice (some ⟨gb, 0, none⟩) Bs.length cb) Bs w _ (by rw [hszW]; omega))
    (fun _ _ _ _ _ hs _ _ => hs)
    ⟨⟨bB4.alloc _, hBL4.alloc _, hBD.alloc _, ⟨As ++ [0], List.replicate L 0, eAl, by simp, hoL5, hoD5, hS0⟩, hoB5, by rw [hszW]; omega⟩, hB5⟩
    (fun x => { tmps := #[.slice aa A.length ca, .slice (some ⟨bn, on, none⟩) N.length cn, undef, .pointer (some ⟨w.heap.size, 0, none⟩), .slice none 0 0, .slice none 0 0, .int .i64 (r : Int), .pointer (some ⟨w2.heap.size, 0, none⟩), .pointer (some ⟨w3.heap.size + 1, 0, none⟩), .int .i64 (x.1.1 : Int), .slice (some ⟨bn, on, none⟩) N.length cn, .slice (some ⟨bn, on, none⟩) N.length cn, .int .i64 (N.length : Int), .int .i64 ((N.length : Int) - 1), .pointer (some ⟨bn, on + (N.length - 1), none⟩), .int .u32 (top : Int), .int .i64 (r : Int), .slice (some ⟨bn, on, none⟩) N.length cn, .int .i64 (r : Int), .slice (some ⟨gb, 0, none⟩) Bs.length cb, .slice aa A.length ca, .int .i64 (r : Int), .slice (some ⟨ga, 0, none⟩) As.length cA, .int .u64 0, .slice (some ⟨gl, 0, none⟩) (As.length + 1) cl, .int .i64 ((As.length : Int) + 1), .slice (some ⟨gb, 0, none⟩) Bs.length cb, .int .i64 (Bs.length : Int), .int .i64 (L : Int), .slice (some ⟨w3.heap.size, 0, none⟩) L L, .slice (some ⟨w3.heap.size, 0, none⟩) L L, .func (.func 51) #[] #[.pointer (some ⟨w3.heap.size + 1 + 1, 0, none⟩)], .int .i64 (x.1.1 : Int), .int .u32 (x.1.2 : Int), undef, undef, undef, undef, undef, undef, undef, undef, undef, undef, undef, undef, undef, undef], defers := [] }) ?assign ?body ?done ?stop
  case assign =>
    intro l x W K hK
    gi_wp2
    exact hK
  case body =>
    rintro l pre x W ⟨⟨bB, bL, bD, ⟨Ls, Ds, e1, e2, oL, oD, hS⟩, oB, hszI⟩, hBW⟩ hpl
    have hx1 := x.2.1
    have hLs1 : Ls.length ≤ L + Bs.length := by omega
    have hLs2 : L + Bs.length ≤ Ls.length := by omega
    have htk : (Ls.take x.1.1).length = x.1.1 := by simp; omega
    have oL3 := oL
    rw [three_parts Ls x.1.1 (Bs.length + 1)] at oL3
    have htake := fun (wx : World) (g1 : Boxed wx w2.heap.size 43 (.slice (some ⟨gl, 0, none⟩) (As.length + 1) cl)) (g2 : Own wx W1.heap.size (.slice (some ⟨gl, 0, none⟩) (As.length + 1) cl) (Ls.take x.1.1 ++ (Ls.drop x.1.1).take (Bs.length + 1) ++ Ls.drop (x.1.1 + (Bs.length + 1)))) (g3 : Own wx (w.heap.size + 1) (.slice (some ⟨gb, 0, none⟩) Bs.length cb) Bs) =>
      takeOut_c wx w2.heap.size W1.heap.size gl (As.length + 1) cl _ _ _ Bs _ g1 g2 (by simp; omega) g3.digs (fun b off cap e _ => by simp only [Value.slice.injEq, Option.some.injEq, Addr.mk.injEq] at e; omega) hBl2 htB
    rw [htk] at htake
    have HTAKE : Hid _ := htake
    have cB := bB.cell
    have cD := bD.cell
    have hmx : Try.prog.follows .mixedOrders = true := by kernel_rfl
    have h1' : 1 ≤ n - 1 - 1 := by omega
    have hgle := bB.lt
    have hlt1 : w3.heap.size + 1 < W.heap.size := bD.lt
    have HE1 : Hid (Ls.length = As.length + 1) := e1
    have hne2 : w2.heap.size ≠ gl := oL.box_ne bL
    have hpl2 : (pre.map (·.1.1)).length < L := by rw [List.length_map]; exact hpl
    have HE2 : Hid (Ds.length = L) := e2
    have HS : Hid (longS L (val (As ++ [0])) (val Bs) (pre.map (·.1.1)) Ls Ds) := hS
    clear htake e1 e2 hS htk
    gi_wp2
    gi_region_with_o ((refine ⟨trivial, ?_⟩; gi_at_call 48; refine (CallsIn.inRound l (callsIn_wide.2 (HTAKE.out W.drew bL oL3 oB))).mono ?_; rintro e w5 ⟨⟨M', t, rfl, ht, hM', hsem, oL5⟩, hg5⟩; have cD5 : w5.cell? ⟨w3.heap.size + 1, 0, none⟩ = some (.slice (some ⟨w3.heap.size, 0, none⟩) L L) := hg5.cell (a := ⟨w3.heap.size + 1, 0, none⟩) cD (by simp; omega); have cB5 : w5.cell? ⟨w.heap.size, 0, none⟩ = some (.slice (some ⟨gb, 0, none⟩) Bs.length cb) := hg5.cell (a := ⟨w.heap.size, 0, none⟩) cB (by simp; omega); have oD5 : Own w5 w3.heap.size (.slice (some ⟨w3.heap.size, 0, none⟩) L L) Ds := Own.other (W := W.drew) oD hg5 (by omega); obtain ⟨u5, hu5⟩ : ∃ u, w5.cell? ⟨w3.heap.size, x.1.1, none⟩ = some u := ⟨_, oD5.cellAt x.1.1 (by rw [HE2.out]; exact hx1)⟩; have hf5 := oD5.frozenAt x.1.1))
    all_goals gi_wp2
    all_goals (try go_bits)
    all_goals exact long_fin (n := Bs.length) rfl bB bL bD oD oB hszI hBW ⟨hg5.os, hg5.tape, hg5.output, hg5.size, hg5.block⟩ oL5 (by omega) hne2 (by omega) (by omega) (by omega) (by omega) (by omega) (by omega) hBW.size (by rw [hszW]; omega) ht HE1.out hM' HE2.out (by omega) (longS_step oL.1 (by have := HE1.out; omega) hx1 (by rw [HLB.out]; exact HVL.out) HE2.out hpl2 HS.out hM' hsem)
  case done =>
    rintro D ys W hD hys ⟨⟨bB, bL, bD, ⟨Ls, Ds, e1, e2, oL, oD, hS⟩, oB, hszI⟩, hBW⟩ hK
    obtain ⟨g1, g2⟩ := hS L (Nat.le_refl _) hys
    rw [Nat.sub_self, Nat.pow_zero, Nat.one_mul, List.drop_zero] at g1
    rw [Nat.sub_self, List.drop_zero] at g2
    obtain ⟨q1, q2⟩ := long_end g1 g2
    have hU : val (As ++ [0]) = val A * 2 ^ r := by rw [val_snoc, Nat.mul_zero, Nat.add_zero, HVA.out]
    rw [hU, HVB.out] at q1 q2
    have hlb := long_back (val A) (val N) r
    rw [hlb.1] at q1
    have q3 : val Ls / 2 ^ r = val A % val N := by rw [q2]; exact hlb.2
    have HQ1 : Hid (val Ds = val A / val N) := q1
    have HQ3 : Hid (val Ls / 2 ^ r = val A % val N) := q3
    have cL := bL.cell
    have hDlt : D < W.heap.size := (Array.getElem?_eq_some_iff.1 hK).1
    have hoLd := oL.digs
    have hLl : Ls.length ≤ 100000 := by rw [e1]; omega
    clear g1 g2 q1 q2 q3 hlb hU hS e1 e2
    go_wp2_with fail
    refine (shr_c _ Ls (r : Int) W hoLd hLl (by omega) (by omega)).mono ?_
    rintro e w6 ⟨⟨v6, rfl, hn6⟩, hb6⟩
    rw [Int.toNat_natCast, HQ3.out] at hn6
    have bD6 := boxed_below bD hb6 (Nat.le_refl _)
    have oD6 := oD.below hb6 (Nat.le_refl _)
    go_wp2_with fail
    refine (number_c w6 (w3.heap.size + 1) w3.heap.size _ Ds bD6 oD6).mono ?_
    rintro e w7 ⟨⟨v7, rfl, ho7⟩, hb7⟩
    have hb67 : Below W.heap.size W w7 := hb6.trans (hb7.mono hb6.size)
    go_wp2
    have hK7 : w7.heap[D]? = some (.deferred (some [])) := (hb67.block D hDlt).trans hK
    refine ⟨by simp, .inl ⟨_, _, rfl, run_takeDeferred hK7, ?_⟩⟩
    have hq7 := (ho7.num HQ1.out).putObj (.deferred none) hK7 rfl
    have hr7 := (hn6.below hb7 (Nat.le_refl _)).putObj (.deferred none) hK7 rfl
    exact ⟨_, results_tmp2 rfl _ _ _, ⟨v7, v6, rfl, hq7.mono (by omega), hr7.mono hBW.size⟩, (hBW.trans (hb67.mono hBW.size)).trans (belowK_b (w := w) (Nat.le_refl _) _ D _ _ (by rw [hszW] at hD; omega) hK7 rfl rfl)⟩
  case stop =>
    rintro D c pre W _ _ h _
    exact h.elim

theorem divLong_c (va vb : Value) (A N : List Nat) (w : World) (hA : Digs w va A) (hN : Digs w vb N) (nN : norm N) (hl2 : 2 ≤ N.length) (hlN : N.length ≤ A.length) (nA : norm A) (hla : A.length ≤ 50000) :
    Calls Try.prog 39 #[va, vb] w fun e w' => (∃ v v2, e = .returned (.tuple #[v, v2]) ∧ Num w' w.heap.size v (val A / val N) ∧ Num w' w.heap.size v2 (val A % val N)) ∧ Below w.heap.size w w' := callsIn_wide.1 (divLong_in 3 (by omega) va vb A N w hA hN nN hl2 hlN nA hla)
end Go.Proofs.Ytceonncbflmciaa
