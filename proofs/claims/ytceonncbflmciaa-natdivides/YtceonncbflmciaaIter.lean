/- What a slice of digits holds in memory; slices.Backward over such a slice, by a contract. -/
import Derived.RangeFuncNested
import Derived.RangeFuncBound
import Derived.RangeFuncCalls
import Derived.RangeFuncLeaves
import Derived.RangeFuncBox
import Derived.Shelf.Abstract
import Derived.WalkKit
import Derived.OwnWalkIn
import Derived.TacticsInMore
import Derived.LoopNIn
import Derived.LoopIn
import Derived.WalkLawsBesides
import Derived.Test.YtceonncbflmciaaProg
import Derived.Test.YtceonncbflmciaaMath
namespace Go.Proofs.Ytceonncbflmciaa
open Go.RowKit Go.Shelf
attribute [local go_sem] Oper.semAt_some

theorem lt_of_cell {W : World} {p : Addr} {v : Value} (h : W.cell? p = some v) : p.block < W.heap.size := by
  by_cases hb : p.block < W.heap.size
  · exact hb
  · exfalso
    have : W.heap[p.block]? = none := Array.getElem?_eq_none (by omega)
    simp [World.cell?, this] at h

/-- The cell of a digit. -/
abbrev dv (d : Nat) : Value := .int .u32 (d : Int)

/-- The slice value sv holds the digits ds. -/
def Digs (W : World) (sv : Value) (ds : List Nat) : Prop :=
  small ds ∧ ds.length ≤ 1000000 ∧ ((sv = .slice none 0 0 ∧ ds = []) ∨ ∃ b off cap, sv = .slice (some ⟨b, off, none⟩) ds.length cap ∧ ds.length ≤ cap ∧
    ∀ j, j < ds.length → W.cell? ⟨b, off + j, none⟩ = some (.int .u32 ((ds[j]?.getD 0 : Nat) : Int)))

theorem Digs.below {W W' : World} {sv : Value} {ds : List Nat} {n : Nat} (h : Digs W sv ds) (hb : Below n W W') (hn : W.heap.size ≤ n) : Digs W' sv ds := by
  obtain ⟨h1, h2, h3⟩ := h
  refine ⟨h1, h2, ?_⟩
  rcases h3 with h3 | ⟨b, off, cap, e, hc, hj⟩
  · exact .inl h3
  · refine .inr ⟨b, off, cap, e, hc, fun j hl => ?_⟩
    have := lt_of_cell (hj j hl)
    exact (hb.cell (p := ⟨b, off + j, none⟩) (by simp at this ⊢; omega)).trans (hj j hl)

theorem Digs.nil (W : World) : Digs W (.slice none 0 0) [] := ⟨small_nil, by simp, .inl ⟨rfl, rfl⟩⟩

/-- The shape of such a value. -/
theorem Digs.shape {W : World} {sv : Value} {ds : List Nat} (h : Digs W sv ds) : ∃ ao cap, sv = .slice ao ds.length cap ∧ ds.length ≤ cap := by
  obtain ⟨_, _, ⟨e, rfl⟩ | ⟨b, off, cap, e, hc, _⟩⟩ := h
  · exact ⟨none, 0, e, Nat.le_refl _⟩
  · exact ⟨_, cap, e, hc⟩

/-- What a round that goes on keeps: what lay below n₀, and the box of the slice that is gone through. -/
def KpB (n₀ Bs : Nat) (W W' : World) : Prop := Below n₀ W W' ∧ W'.cell? ⟨Bs, 0, none⟩ = W.cell? ⟨Bs, 0, none⟩
theorem KpB.refl (n₀ Bs : Nat) (W : World) : KpB n₀ Bs W W := ⟨Below.refl _ _, rfl⟩
theorem KpB_t {n₀ Bs : Nat} {A B C : World} (h : KpB n₀ Bs A B) (k : KpB n₀ Bs B C) : KpB n₀ Bs A C := ⟨h.1.trans k.1, k.2.trans h.2⟩
theorem KpB_b {n₀ Bs : Nat} {w : World} (hn : n₀ ≤ w.heap.size) (hBs : Bs < w.heap.size) (W : World) (l : Nat) (o o' : Obj) (hl : w.heap.size ≤ l) (h : W.heap[l]? = some o) (h1 : o.isCells = false) (h2 : o.isWalk = false) : KpB n₀ Bs W (W.putObj l o') :=
  ⟨belowK_b hn W l o o' hl h h1 h2, (belowK_b (Nat.le_refl _) W l o o' hl h h1 h2).cell (p := ⟨Bs, 0, none⟩) hBs⟩
theorem KpB.of_below {n₀ Bs m : Nat} {W W' : World} (h : Below m W W') (h1 : n₀ ≤ m) (h2 : Bs < m) : KpB n₀ Bs W W' := ⟨h.mono h1, h.cell (p := ⟨Bs, 0, none⟩) h2⟩
/-- A store into another block from n₀ on. -/
theorem KpB.setCell {n₀ Bs : Nat} {W W' : World} (h : KpB n₀ Bs W W') {p : Addr} (hp : n₀ ≤ p.block) (hne : p.block ≠ Bs) (u : Value) : KpB n₀ Bs W (W'.setCell p u) :=
  ⟨h.1.setCell hp u, (World.cell?_of_block (Below.heap_setCell W' p u Bs (fun e => hne e.symm))).trans h.2⟩

/-- An index and the digit there. -/
abbrev It (ds : List Nat) := { x : Nat × Nat // x.1 < ds.length ∧ ds[x.1]?.getD 0 = x.2 }

/-- The first k of what comes, from behind. -/
def seqB (ds : List Nat) (k : Nat) : List (Nat × Nat) := (List.range k).map fun j => (ds.length - 1 - j, ds[ds.length - 1 - j]?.getD 0)
theorem seqB_succ (ds : List Nat) (k : Nat) : seqB ds (k + 1) = seqB ds k ++ [(ds.length - 1 - k, ds[ds.length - 1 - k]?.getD 0)] := by simp [seqB, List.range_succ]
theorem seqB_length (ds : List Nat) (k : Nat) : (seqB ds k).length = k := by simp [seqB]

set_option maxRecDepth 100000 in
set_option maxHeartbeats 2000000 in
theorem back1_in (F : Fence) (n : Nat) (h7 : F.fn 45) (hro : F.round = none) (hn : 1 ≤ n) (l Bs n₀ b off cap : Nat) (ds : List Nat) (hreach : ds.length ≤ 1000000) (hb : 0 < ds.length → b < n₀) (J Jx : List (It ds) → World → Prop)
    (hY : ∀ pre x W, J pre W → pre.length < ds.length → YieldAt F (n - 1) Try.prog l #[.int .i64 (x.1.1 : Int), .int .u32 (x.1.2 : Int)] W fun e W' =>
      (e = .returned (.bool true) ∧ J (pre ++ [x]) W' ∧ KpB n₀ Bs W W') ∨ (e = .returned (.bool false) ∧ Jx (pre ++ [x]) W'))
    (W : World) (hBs : W.cell? ⟨Bs, 0, none⟩ = some (.slice (some ⟨b, off, none⟩) ds.length cap)) (hc : ∀ j, j < ds.length → W.cell? ⟨b, off + j, none⟩ = some (.int .u32 ((ds[j]?.getD 0 : Nat) : Int))) (h0 : J [] W) :
    CallsIn F n Try.prog 45 #[.func (.yield l) #[] #[], .pointer (some ⟨Bs, 0, none⟩)] W fun e W' => (∃ v, e = .returned v) ∧
      ((∃ ys : List (It ds), ys.map (·.1) = seqB ds ds.length ∧ J ys W') ∨ (∃ pre : List (It ds), (∃ k, k ≤ ds.length ∧ pre.map (·.1) = seqB ds k) ∧ Jx pre W')) := by
  refine callsIn_of_wp Try.func45 rfl h7 ?_ hro
  simp only [Try.ntmps45, List.size_toArray, List.length_cons, List.length_nil, Nat.reduceAdd, Nat.reduceSub, Array.replicate_succ, Array.replicate_zero, List.push_toArray, List.append_toArray, List.nil_append, List.cons_append]
  gi_wp2
  gi_loopw [3] (fun i wr => ∃ (k : Nat) (pre : List (It ds)), k ≤ ds.length ∧ i = .int .i64 ((ds.length : Int) - 1 - k) ∧ pre.map (·.1) = seqB ds k ∧ J pre wr ∧ KpB n₀ Bs W wr)
    (fun i _ => (intOf i + 1).toNat)
  case atStart => exact ⟨0, [], Nat.zero_le _, by simp, rfl, h0, KpB.refl _ _ _⟩
  case round =>
    obtain ⟨k, pre, hk, rfl, hpre, hJs, hnx⟩ := hrel
    have hbx : wr.cell? ⟨Bs, 0, none⟩ = some (.slice (some ⟨b, off, none⟩) ds.length cap) := hnx.2.trans hBs
    by_cases hlt : k < ds.length
    · obtain ⟨i, hi⟩ : ∃ i : Nat, i = ds.length - 1 - k := ⟨_, rfl⟩
      have hil : i < ds.length := by omega
      have hcx0 := (hnx.1.cell (p := ⟨b, off + i, none⟩) (hb (by omega))).trans (hc i hil)
      have hii : (ds.length : Int) - 1 - k = (i : Int) := by omega
      have hpl : pre.length = k := by have := congrArg List.length hpre; simpa [seqB_length] using this
      obtain ⟨x, hx⟩ : ∃ x, ds[i]?.getD 0 = x := ⟨_, rfl⟩
      have hcx : wr.cell? ⟨b, off + i, none⟩ = some (.int .u32 (x : Int)) := by rw [hcx0, hx]
      have HX : Hid (ds[i]?.getD 0 = x) := hx
      obtain ⟨fn, tmps, assign, body, hy, hR⟩ := hY pre ⟨(i, x), hil, HX.out⟩ wr hJs (by omega)
      dsimp only at hy
      rw [hii]
      have HS : Hid (seqB ds (k + 1) = seqB ds k ++ [(i, x)]) := by rw [seqB_succ, ← hi, hx]; rfl
      have HP : Hid (pre.map (·.1) = seqB ds k) := hpre
      have hk2 : i + k + 1 ≤ ds.length := by omega
      have hk3 : ds.length ≤ i + k + 1 := by omega
      clear hcx0 hx
      clear hii hi hpre hpl
      gi_wp2
      refine hR.mono ?_
      rintro e W3 (⟨rfl, hJ3, hk3'⟩ | ⟨rfl, hJx3⟩)
      · gi_wp2
        go_roundw
        case rel => exact ⟨k + 1, pre ++ [⟨(i, x), hil, HX.out⟩], by omega, by go_num, by rw [List.map_append, HP.out, HS.out]; rfl, hJ3, KpB_t hnx hk3'⟩
        case measure => simp [intOf]
      · gi_wp2
        refine bodyPost_ret (results_none rfl _ _ _) rfl ?_
        exact ⟨⟨_, rfl⟩, .inr ⟨_, ⟨k + 1, by omega, by rw [List.map_append, HP.out, HS.out]; rfl⟩, hJx3⟩⟩
    · obtain rfl : k = ds.length := by omega
      gi_wp2
      go_end0
      exact ⟨⟨_, rfl⟩, .inl ⟨_, hpre, hJs⟩⟩

set_option maxRecDepth 100000 in
set_option maxHeartbeats 1000000 in
theorem back1_nil_in (F : Fence) (n : Nat) (h7 : F.fn 45) (hro : F.round = none) (l Bs : Nat) (J : World → Prop) (W : World) (hBs : W.cell? ⟨Bs, 0, none⟩ = some (.slice none 0 0)) (h0 : J W) :
    CallsIn F n Try.prog 45 #[.func (.yield l) #[] #[], .pointer (some ⟨Bs, 0, none⟩)] W fun e W' => (∃ v, e = .returned v) ∧ J W' := by
  refine callsIn_of_wp Try.func45 rfl h7 ?_ hro
  simp only [Try.ntmps45, List.size_toArray, List.length_cons, List.length_nil, Nat.reduceAdd, Nat.reduceSub, Array.replicate_succ, Array.replicate_zero, List.push_toArray, List.append_toArray, List.nil_append, List.cons_append]
  gi_wp2
  gi_loopw [3] (fun i wr => i = .int .i64 (-1) ∧ J wr) (fun _ _ => 0)
  case atStart => exact ⟨rfl, h0⟩
  case round =>
    obtain ⟨rfl, hJs⟩ := hrel
    gi_wp2
    go_end0
    exact ⟨⟨_, rfl⟩, hJs⟩

set_option maxHeartbeats 1000000 in
/-- slices.Backward(n): the slice is boxed, the function value captures the box. -/
theorem back_in (F : Fence) (n : Nat) (h5 : F.fn 34) (hro : F.round = none) (a : Option Addr) (len cap : Nat) (w : World) :
    CallsIn F n Try.prog 34 #[.slice a len cap] w fun e w' => e = .returned (.func (.func 45) #[] #[.pointer (some ⟨w.heap.size, 0, none⟩)]) ∧ w' = w.alloc (.cells #[.slice a len cap] 23) := by
  refine callsIn_of_wp Try.func34 rfl h5 ?_ hro
  simp only [Try.ntmps34, List.size_toArray, List.length_cons, List.length_nil, Nat.reduceAdd, Nat.reduceSub, Array.replicate_succ, Array.replicate_zero, List.push_toArray, List.append_toArray, List.nil_append, List.cons_append]
  gi_wp2
  go_ret
  exact ⟨rfl, rfl⟩

/-- slices.Backward(n) goes through the digits from behind: all of them, or the first k. -/
theorem back_stops (F : Fence) (n : Nat) (h7 : F.fn 45) (hro : F.round = none) (hn : 1 ≤ n) (Bs n₀ : Nat) (sv : Value) (ds : List Nat) (w : World) (hn₀ : ∀ b off cap, sv = .slice (some ⟨b, off, none⟩) ds.length cap → 0 < ds.length → b < n₀)
    (hc : w.cell? ⟨Bs, 0, none⟩ = some sv) (hI : Digs w sv ds) :
    SeqStopsK F n Try.prog 45 #[.pointer (some ⟨Bs, 0, none⟩)] (fun x : It ds => #[Value.int .i64 (x.1.1 : Int), Value.int .u32 (x.1.2 : Int)]) (KpB n₀ Bs) (fun ys => ys.map (·.1) = seqB ds ds.length)
      (fun pre => ∃ k, k ≤ ds.length ∧ pre.map (·.1) = seqB ds k) ds.length w := fun l J Jx W hW _ _ hY h0 => by
  have hBs := lt_of_cell hc
  have hc' := (hW.cell (p := ⟨Bs, 0, none⟩) hBs).trans hc
  have hI' := hI.below hW (Nat.le_refl _)
  obtain ⟨_, hl, ⟨rfl, rfl⟩ | ⟨b, off, cap, rfl, hcap, hcs⟩⟩ := hI'
  · exact (back1_nil_in F n h7 hro l Bs (J []) W hc' h0).mono fun e W' ⟨he, hj⟩ => ⟨he, .inl ⟨[], by simp [seqB], hj⟩⟩
  · exact back1_in F n h7 hro hn l Bs n₀ b off cap ds hl (hn₀ b off cap rfl) J Jx hY W hc' hcs h0

/-- The block of digits that lay ahead lies below. -/
theorem Digs.blk {W : World} {sv : Value} {ds : List Nat} (h : Digs W sv ds) : ∀ b off cap, sv = .slice (some ⟨b, off, none⟩) ds.length cap → 0 < ds.length → b < W.heap.size := by
  intro b off cap e h0
  obtain ⟨_, _, ⟨e', rfl⟩ | ⟨b', off', cap', e', _, hcs0⟩⟩ := h
  · simp at h0
  · subst e'; cases e; exact lt_of_cell (hcs0 0 h0)
end Go.Proofs.Ytceonncbflmciaa
