/- tri.rows: rows and their first places, one behind the other. -/
import Derived.Test.YtdccjlaneobldaaDoorBase
namespace Go.Proofs.YtdccjlaneobldaaDoor
open Go.RowKit Go.Shelf
attribute [local go_sem] Oper.semAt_some

set_option maxRecDepth 100000 in
set_option maxHeartbeats 2000000 in
theorem rows1_in (F : Fence) (m : Nat) (h7 : F.fn 72) (hro : F.round = none) (hm : 1 ≤ m) (l Bs n₀ n : Nat) (hn : n ≤ 6) (J Jx : List (It n) → World → Prop)
    (hY : ∀ pre x W, J pre W → pre.length < n + 1 → YieldAt F (m - 1) Tryd.prog l #[.int .i64 (x.1.1 : Int), .int .i64 (x.1.2 : Int)] W fun e W' =>
      (e = .returned (.bool true) ∧ J (pre ++ [x]) W' ∧ KpB n₀ Bs W W') ∨ (e = .returned (.bool false) ∧ Jx (pre ++ [x]) W'))
    (W : World) (hBs : W.cell? ⟨Bs, 0, none⟩ = some (.int .i64 (n : Int))) (h0 : J [] W) :
    CallsIn F m Tryd.prog 72 #[.func (.yield l) #[] #[], .pointer (some ⟨Bs, 0, none⟩)] W fun e W' => (∃ v, e = .returned v) ∧
      ((∃ ys : List (It n), ys.map (·.1) = seqR n (n + 1) ∧ J ys W') ∨ (∃ pre : List (It n), (∃ k, k ≤ n + 1 ∧ pre.map (·.1) = seqR n k) ∧ Jx pre W')) := by
  refine callsIn_of_wp Tryd.func72 rfl h7 ?_ hro
  simp only [Tryd.ntmps72, List.size_toArray, List.length_cons, List.length_nil, Nat.reduceAdd, Nat.reduceSub, Array.replicate_succ, Array.replicate_zero, List.push_toArray, List.append_toArray, List.nil_append, List.cons_append]
  gi_wp2
  gi_loopw [3, 7] (fun f i wr => ∃ (k : Nat) (pre : List (It n)), k ≤ n + 1 ∧ i = .int .i64 (k : Int) ∧ f = .int .i64 (place n k : Int) ∧ pre.map (·.1) = seqR n k ∧ J pre wr ∧ KpB n₀ Bs W wr)
    (fun _ i _ => n + 1 - (intOf i).toNat)
  case atStart => exact ⟨0, [], by omega, by simp, by simp [place], rfl, h0, KpB.refl _ _ _⟩
  case round =>
    obtain ⟨k, pre, hk, rfl, rfl, hpre, hJs, hnx⟩ := hrel
    have hbx : wr.cell? ⟨Bs, 0, none⟩ = some (.int .i64 (n : Int)) := hnx.2.trans hBs
    have hps := place_small n k hn hk
    by_cases hlt : k < n + 1
    · have hkn : k ≤ n := by omega
      have hpl : pre.length = k := by have := congrArg List.length hpre; simpa [seqR_length] using this
      obtain ⟨p, hp⟩ : ∃ p, place n k = p := ⟨_, rfl⟩
      have HPK : Hid (place n k = p) := hp
      obtain ⟨fn, tmps, assign, body, hy, hR⟩ := hY pre ⟨(k, p), hkn, HPK.out⟩ wr hJs (by omega)
      dsimp only at hy
      rw [hp] at hps
      have HQ : Hid (place n (k + 1) = p + (n + 1 - k)) := by show _ = _; rw [← hp]; rfl
      have HS : Hid (seqR n (k + 1) = seqR n k ++ [(k, p)]) := by show _ = _; rw [seqR_succ, hp]
      have HP : Hid (pre.map (·.1) = seqR n k) := hpre
      rw [hp]
      clear hpre hpl hp
      gi_wp2
      refine hR.mono ?_
      rintro e W3 (⟨rfl, hJ3, hk3'⟩ | ⟨rfl, hJx3⟩)
      · have hbx3 : W3.cell? ⟨Bs, 0, none⟩ = some (.int .i64 (n : Int)) := hk3'.2.trans hbx
        gi_wp2
        go_roundw
        case rel => exact ⟨k + 1, pre ++ [⟨(k, p), hkn, HPK.out⟩], by omega, by go_num, by rw [HQ.out]; go_num, by rw [List.map_append, HP.out, HS.out]; rfl, hJ3, KpB_t hnx hk3'⟩
        case measure => simp [intOf]; omega
      · gi_wp2
        refine bodyPost_ret (results_none rfl _ _ _) rfl ?_
        exact ⟨⟨_, rfl⟩, .inr ⟨_, ⟨k + 1, by omega, by rw [List.map_append, HP.out, HS.out]; rfl⟩, hJx3⟩⟩
    · obtain rfl : k = n + 1 := by omega
      gi_wp2
      go_end0
      exact ⟨⟨_, rfl⟩, .inl ⟨_, hpre, hJs⟩⟩

set_option maxHeartbeats 1000000 in
/-- tri.rows(cols): the number is boxed, the function value captures the box. -/
theorem rows_in (F : Fence) (m : Nat) (h5 : F.fn 52) (hro : F.round = none) (c : Int) (w : World) :
    CallsIn F m Tryd.prog 52 #[.int .i64 c] w fun e w' => e = .returned (.func (.func 72) #[] #[.pointer (some ⟨w.heap.size, 0, none⟩)]) ∧ w' = w.alloc (.cells #[.int .i64 c] 3) := by
  refine callsIn_of_wp Tryd.func52 rfl h5 ?_ hro
  simp only [Tryd.ntmps52, List.size_toArray, List.length_cons, List.length_nil, Nat.reduceAdd, Nat.reduceSub, Array.replicate_succ, Array.replicate_zero, List.push_toArray, List.append_toArray, List.nil_append, List.cons_append]
  gi_wp2
  go_ret
  exact ⟨rfl, rfl⟩

theorem rows_stops (F : Fence) (m : Nat) (h7 : F.fn 72) (hro : F.round = none) (hm : 1 ≤ m) (Bs n₀ n : Nat) (hn : n ≤ 6) (w : World) (hc : w.cell? ⟨Bs, 0, none⟩ = some (.int .i64 (n : Int))) :
    SeqStopsK F m Tryd.prog 72 #[.pointer (some ⟨Bs, 0, none⟩)] (fun x : It n => #[Value.int .i64 (x.1.1 : Int), Value.int .i64 (x.1.2 : Int)]) (KpB n₀ Bs) (fun ys => ys.map (·.1) = seqR n (n + 1))
      (fun pre => ∃ k, k ≤ n + 1 ∧ pre.map (·.1) = seqR n k) (n + 1) w := fun l J Jx W hW _ _ hY h0 => by
  have hBs := lt_of_cell hc
  have hc' := (hW.cell (p := ⟨Bs, 0, none⟩) hBs).trans hc
  exact rows1_in F m h7 hro hm l Bs n₀ n hn J Jx hY W hc' h0
end Go.Proofs.YtdccjlaneobldaaDoor
