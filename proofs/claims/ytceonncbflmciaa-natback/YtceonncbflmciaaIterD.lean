/- slices.Backward over digits that the loop itself writes: the indices alone. -/
import Derived.Test.YtceonncbflmciaaIter
namespace Go.Proofs.Ytceonncbflmciaa
open Go.RowKit Go.Shelf
attribute [local go_sem] Oper.semAt_some

/-- An index below L, and some digit. -/
abbrev ItD (L : Nat) := { x : Nat × Nat // x.1 < L ∧ x.2 < 4294967296 }

/-- The first k indices, from behind. -/
def idxB (L k : Nat) : List Nat := (List.range k).map fun j => L - 1 - j
theorem idxB_succ (L k : Nat) : idxB L (k + 1) = idxB L k ++ [L - 1 - k] := by simp [idxB, List.range_succ]
theorem idxB_length (L k : Nat) : (idxB L k).length = k := by simp [idxB]

/-- A row of digits at the head of block g. -/
def Row (W : World) (g L : Nat) : Prop := ∀ j, j < L → ∃ x, x < 4294967296 ∧ W.cell? ⟨g, j, none⟩ = some (.int .u32 ((x : Nat) : Int))

/-- What a round that goes on keeps: the box of the slice that is gone through, and that its cells are digits. -/
def KpD (Bs g L : Nat) (W W' : World) : Prop := W'.cell? ⟨Bs, 0, none⟩ = W.cell? ⟨Bs, 0, none⟩ ∧ (Row W g L → Row W' g L)
theorem KpD.refl (Bs g L : Nat) (W : World) : KpD Bs g L W W := ⟨rfl, fun h => h⟩
theorem KpD_t {Bs g L : Nat} {A B C : World} (h : KpD Bs g L A B) (k : KpD Bs g L B C) : KpD Bs g L A C := ⟨k.1.trans h.1, fun r => k.2 (h.2 r)⟩
theorem KpD_b {Bs g L : Nat} {w : World} (hBs : Bs < w.heap.size) (hg : g < w.heap.size) (W : World) (l : Nat) (o o' : Obj) (hl : w.heap.size ≤ l) (h : W.heap[l]? = some o) (h1 : o.isCells = false) (h2 : o.isWalk = false) : KpD Bs g L W (W.putObj l o') := by
  have hb := belowK_b (Nat.le_refl _) W l o o' hl h h1 h2
  refine ⟨hb.cell (p := ⟨Bs, 0, none⟩) hBs, fun r j hj => ?_⟩
  obtain ⟨x, hx, hc⟩ := r j hj
  exact ⟨x, hx, (hb.cell (p := ⟨g, j, none⟩) hg).trans hc⟩

set_option maxRecDepth 100000 in
set_option maxHeartbeats 2000000 in
theorem backD1_in (F : Fence) (n : Nat) (h7 : F.fn 51) (hro : F.round = none) (hn : 1 ≤ n) (l Bs g L cap : Nat) (hreach : L ≤ 1000000) (J Jx : List (ItD L) → World → Prop)
    (hY : ∀ pre x W, J pre W → pre.length < L → YieldAt F (n - 1) Try.prog l #[.int .i64 (x.1.1 : Int), .int .u32 (x.1.2 : Int)] W fun e W' =>
      (e = .returned (.bool true) ∧ J (pre ++ [x]) W' ∧ KpD Bs g L W W') ∨ (e = .returned (.bool false) ∧ Jx (pre ++ [x]) W'))
    (W : World) (hBs : W.cell? ⟨Bs, 0, none⟩ = some (.slice (some ⟨g, 0, none⟩) L cap)) (hc : Row W g L) (h0 : J [] W) :
    CallsIn F n Try.prog 51 #[.func (.yield l) #[] #[], .pointer (some ⟨Bs, 0, none⟩)] W fun e W' => (∃ v, e = .returned v) ∧
      ((∃ ys : List (ItD L), ys.map (·.1.1) = idxB L L ∧ J ys W') ∨ (∃ pre : List (ItD L), (∃ k, k ≤ L ∧ pre.map (·.1.1) = idxB L k) ∧ Jx pre W')) := by
  refine callsIn_of_wp Try.func51 rfl h7 ?_ hro
  simp only [Try.ntmps51, List.size_toArray, List.length_cons, List.length_nil, Nat.reduceAdd, Nat.reduceSub, Array.replicate_succ, Array.replicate_zero, List.push_toArray, List.append_toArray, List.nil_append, List.cons_append]
  gi_wp2
  gi_loopw [3] (fun i wr => ∃ (k : Nat) (pre : List (ItD L)), k ≤ L ∧ i = .int .i64 ((L : Int) - 1 - k) ∧ pre.map (·.1.1) = idxB L k ∧ J pre wr ∧ KpD Bs g L W wr)
    (fun i _ => (intOf i + 1).toNat)
  case atStart => exact ⟨0, [], Nat.zero_le _, by simp, rfl, h0, KpD.refl _ _ _ _⟩
  case round =>
    obtain ⟨k, pre, hk, rfl, hpre, hJs, hnx⟩ := hrel
    have hbx : wr.cell? ⟨Bs, 0, none⟩ = some (.slice (some ⟨g, 0, none⟩) L cap) := hnx.1.trans hBs
    by_cases hlt : k < L
    · obtain ⟨i, hi⟩ : ∃ i : Nat, i = L - 1 - k := ⟨_, rfl⟩
      have hil : i < L := by omega
      obtain ⟨x, hxs, hcx⟩ := hnx.2 hc i hil
      have hii : (L : Int) - 1 - k = (i : Int) := by omega
      have hpl : pre.length = k := by have := congrArg List.length hpre; simpa [idxB_length] using this
      obtain ⟨fn, tmps, assign, body, hy, hR⟩ := hY pre ⟨(i, x), hil, hxs⟩ wr hJs (by omega)
      dsimp only at hy
      rw [hii]
      have HS : Hid (idxB L (k + 1) = idxB L k ++ [i]) := by show _ = _; rw [idxB_succ, ← hi]
      have HP : Hid (pre.map (·.1.1) = idxB L k) := hpre
      have hk2 : i + k + 1 ≤ L := by omega
      have hk3 : L ≤ i + k + 1 := by omega
      clear hii hi hpre hpl
      gi_wp2
      refine hR.mono ?_
      rintro e W3 (⟨rfl, hJ3, hk3'⟩ | ⟨rfl, hJx3⟩)
      · gi_wp2
        go_roundw
        case rel => exact ⟨k + 1, pre ++ [⟨(i, x), hil, hxs⟩], by omega, by go_num, by rw [List.map_append, HP.out, HS.out]; rfl, hJ3, KpD_t hnx hk3'⟩
        case measure => simp [intOf]
      · gi_wp2
        refine bodyPost_ret (results_none rfl _ _ _) rfl ?_
        exact ⟨⟨_, rfl⟩, .inr ⟨_, ⟨k + 1, by omega, by rw [List.map_append, HP.out, HS.out]; rfl⟩, hJx3⟩⟩
    · obtain rfl : k = L := by omega
      gi_wp2
      go_end0
      exact ⟨⟨_, rfl⟩, .inl ⟨_, hpre, hJs⟩⟩

set_option maxHeartbeats 1000000 in
theorem backD_in (F : Fence) (n : Nat) (h5 : F.fn 47) (hro : F.round = none) (a : Option Addr) (len cap : Nat) (w : World) :
    CallsIn F n Try.prog 47 #[.slice a len cap] w fun e w' => e = .returned (.func (.func 51) #[] #[.pointer (some ⟨w.heap.size, 0, none⟩)]) ∧ w' = w.alloc (.cells #[.slice a len cap] 43) := by
  refine callsIn_of_wp Try.func47 rfl h5 ?_ hro
  simp only [Try.ntmps47, List.size_toArray, List.length_cons, List.length_nil, Nat.reduceAdd, Nat.reduceSub, Array.replicate_succ, Array.replicate_zero, List.push_toArray, List.append_toArray, List.nil_append, List.cons_append]
  gi_wp2
  go_ret
  exact ⟨rfl, rfl⟩

theorem backD_stops (F : Fence) (n : Nat) (h7 : F.fn 51) (hro : F.round = none) (hn : 1 ≤ n) (Bs g L cap : Nat) (hL : L ≤ 1000000) (w : World)
    (hc : w.cell? ⟨Bs, 0, none⟩ = some (.slice (some ⟨g, 0, none⟩) L cap)) (hg : g < w.heap.size) (hR : Row w g L) :
    SeqStopsK F n Try.prog 51 #[.pointer (some ⟨Bs, 0, none⟩)] (fun x : ItD L => #[Value.int .i64 (x.1.1 : Int), Value.int .u32 (x.1.2 : Int)]) (KpD Bs g L) (fun ys => ys.map (·.1.1) = idxB L L)
      (fun pre => ∃ k, k ≤ L ∧ pre.map (·.1.1) = idxB L k) L w := fun l J Jx W hW _ _ hY h0 => by
  have hBs := lt_of_cell hc
  have hc' := (hW.cell (p := ⟨Bs, 0, none⟩) hBs).trans hc
  have hR' : Row W g L := fun j hj => by
    obtain ⟨x, hx, hcx⟩ := hR j hj
    exact ⟨x, hx, (hW.cell (p := ⟨g, j, none⟩) hg).trans hcx⟩
  exact backD1_in F n h7 hro hn l Bs g L cap hL J Jx hY W hc' hR' h0
end Go.Proofs.Ytceonncbflmciaa
