/- levellingref02.Len, and .From at 1. -/
import Derived.Test.YtceonncbflmciaaCountsAny
namespace Go.Proofs.Ytceonncbflmciaa
open Go.RowKit Go.Shelf

theorem bl_half {t : Nat} (h : 0 < t) : bl t = bl (t / 2) + 1 := by
  by_cases h1 : t / 2 = 0
  · obtain rfl : t = 1 := by omega
    rfl
  · apply bl_eq (by omega)
    · have h2 := bl_ge h1
      have h3 := bl_pos h1
      have h4 : 2 ^ (bl (t / 2) + 1 - 1) = 2 ^ (bl (t / 2) - 1) * 2 := by rw [← Nat.pow_succ]; congr 1; omega
      omega
    · have h2 := lt_bl (t / 2)
      rw [Nat.pow_succ]
      omega

theorem bl_top (X : List Nat) (hs : small X) (hn : norm X) (h0 : 0 < X.length) : bl (val X) = 32 * (X.length - 1) + bl (X[X.length - 1]?.getD 0) := by
  have h1 := bl_digs X hs (by rw [hn]; exact h0)
  rw [hn] at h1
  have hd := small_getD hs (X.length - 1)
  have ht := sizeL_top X (by rw [hn]; exact h0)
  rw [hn] at ht
  generalize X[X.length - 1]?.getD 0 = d at *
  have h3 := bl_digs [d] (by intro x hx; simp at hx; omega) (by simp [sizeL, ht])
  have h4 : sizeL [d] = 1 := by simp [sizeL, ht]
  rw [h4] at h3
  simp [val] at h3
  rw [h1, h3]
  omega

set_option maxRecDepth 100000 in
set_option maxHeartbeats 4000000 in
theorem rlen_c (va : Value) (A : List Nat) (w : World) (hA : Digs w va A) :
    Calls Try.prog 40 #[va] w fun e w' => e = .returned (.int .i64 (bl (val A) : Nat)) ∧ Below w.heap.size w w' := by
  have nX := norm_trimL A
  obtain ⟨L, hL⟩ : ∃ L, bl (val A) = L := ⟨_, rfl⟩
  rw [hL]
  have HL : Hid (bl (val (trimL A)) = L) := by show _ = _; rw [val_trimL]; exact hL
  clear hL
  go_enter Try.func40, Try.ntmps40
  go_wp2_with fail
  refine (rtrim_c _ A _ hA).mono ?_
  rintro e w1 ⟨⟨v1, rfl, hX⟩, hb⟩
  clear hA
  generalize trimL A = X at *
  obtain ⟨aa, ca, rfl, hca⟩ := hX.shape
  have hlx := hX.2.1
  by_cases h0 : X.length = 0
  · have h0' : ((X.length : Int) == 0) = true := by simp [h0]
    have HO : Hid (L = 0) := by show L = 0; rw [← HL.out, List.length_eq_zero_iff.1 h0]; rfl
    clear h0
    go_wp2
    go_ret
    exact ⟨ret_one (by rw [HO.out]; rfl), hb⟩
  · have h0' : ((X.length : Int) == 0) = false := by simp [h0]
    obtain ⟨b1, o1, c1, e1, hb1, hc1⟩ := hX.cell (by omega)
    obtain ⟨rfl, rfl⟩ : aa = some ⟨b1, o1, none⟩ ∧ ca = c1 := by simpa using e1
    have hx1 := hc1 (X.length - 1) (by omega)
    have HT : Hid (L = 32 * (X.length - 1) + bl (X[X.length - 1]?.getD 0)) := by show L = _; rw [← HL.out]; exact bl_top X hX.1 nX (by omega)
    have hts := small_getD hX.1 (X.length - 1)
    generalize X[X.length - 1]?.getD 0 = t0 at *
    have hbt : bl t0 ≤ 32 := bl_le (by omega)
    clear hc1 e1
    go_wp2_with fail
    go_loopw [4, 5] (fun k t wr => ∃ (c s : Nat), k = .int .i64 ((32 * (X.length - 1) + c : Nat) : Int) ∧ t = .int .u32 (s : Int) ∧ s < 4294967296 ∧ c ≤ 32 ∧ Hid (c + bl s = bl t0) ∧ wr = w1)
      (fun _ t _ => (intOf t).toNat)
    case atStart => exact ⟨0, t0, congrArg (Value.int .i64) (by omega), rfl, hts, by omega, Nat.zero_add _, rfl⟩
    case round =>
      obtain ⟨c, s, rfl, rfl, hs, hc, HC, rfl⟩ := hrel
      have hcn := HC.out
      by_cases hs0 : 0 < s
      · have HH : Hid (bl s = bl (s / 2) + 1) := bl_half hs0
        have hcc : c + 1 ≤ 32 := by have := HH.out; omega
        clear hcn
        generalize hg : 32 * (X.length - 1) + c = g at *
        have HG : Hid (32 * (X.length - 1) + c = g) := hg
        have hgl : g ≤ 100000000 := by omega
        clear hg
        go_wp2
        go_roundw
        case rel =>
          have h1 := HG.out
          exact ⟨c + 1, s / 2, congrArg (Value.int .i64) (by omega), congrArg (Value.int .u32) (by omega), by omega, hcc, by show _ = _; have := HC.out; have := HH.out; omega, trivial⟩
        case measure => simp [intOf]; omega
      · obtain rfl : s = 0 := by omega
        have HF : Hid (32 * (X.length - 1) + c = L) := by show _ = _; rw [HT.out]; have := HC.out; rw [bl_zero] at this; omega
        clear hcn
        rw [HF.out]
        go_wp2
        go_ret
        exact ⟨rfl, hb⟩

theorem digs_two (w : World) : Digs (w.alloc (.cells #[.int .u32 1, .int .u32 0] 42)) (.slice (some ⟨w.heap.size, 0, none⟩) 2 2) [1, 0] := by
  refine ⟨by intro x hx; simp at hx; omega, by simp, .inr ⟨_, _, _, rfl, Nat.le_refl _, ?_⟩⟩
  intro j hj
  unfold World.cell? World.alloc
  simp only [Array.getElem?_push_size]
  rcases j with _ | _ | j
  · rfl
  · rfl
  · exact absurd hj (by simp)

set_option maxHeartbeats 1000000 in
theorem rfrom_one (w : World) : Calls Try.prog 41 #[.int .u64 1] w fun e w' => (∃ v, e = .returned v ∧ Res w' v 1) ∧ Below w.heap.size w w' := by
  go_enter Try.func41, Try.ntmps41
  go_wp2_with fail
  have h2 : Digs (w.alloc (.cells #[.int .u32 1, .int .u32 0] 42)) (.slice (some ⟨w.heap.size, 0, none⟩) 2 2) [1, 0] := digs_two w
  have hb : Below w.heap.size w (w.alloc (.cells #[.int .u32 1, .int .u32 0] 42)) := Below.alloc (Below.refl _ _) (Nat.le_refl _) _
  generalize w.alloc (.cells #[.int .u32 1, .int .u32 0] 42) = w2 at *
  refine (rtrim_c _ [1, 0] _ h2).mono ?_
  rintro e w3 ⟨⟨v3, rfl, h3⟩, hb3⟩
  go_wp2
  go_ret
  exact ⟨⟨_, rfl, [1], h3, rfl, rfl⟩, hb.trans (hb3.mono hb.size)⟩
end Go.Proofs.Ytceonncbflmciaa
