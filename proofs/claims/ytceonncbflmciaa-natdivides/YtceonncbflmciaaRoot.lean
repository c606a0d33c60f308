/- nat.Root: Newton's steps from above. -/
import Derived.Test.YtceonncbflmciaaDiv
import Derived.Test.YtceonncbflmciaaCmp
import Derived.Test.YtceonncbflmciaaAdd
import Derived.Test.YtceonncbflmciaaShr
namespace Go.Proofs.Ytceonncbflmciaa
open Go.RowKit Go.Shelf

theorem len_of_lt {ds : List Nat} {k : Nat} (hn : norm ds) (h : val ds < 4294967296 ^ k) : ds.length ≤ k := by
  apply Classical.byContradiction
  intro hc
  have h1 := val_ge hn (by omega)
  have h2 : 4294967296 ^ k ≤ 4294967296 ^ (ds.length - 1) := Nat.pow_le_pow_right (by omega) (by omega)
  omega

/-- A number, opened. -/
theorem Num.open {W : World} {base : Nat} {v : Value} {N : Nat} (h : Num W base v N) : ∃ ds, Digs W v ds ∧ norm ds ∧ val ds = N := by
  obtain ⟨ds, h1, h2, h3⟩ := h
  exact ⟨ds, h1.digs, h2, h3⟩

theorem Digs.unique {W : World} {v : Value} {a b : List Nat} (ha : Digs W v a) (hb : Digs W v b) : a = b := by
  obtain ⟨_, _, ⟨e, rfl⟩ | ⟨b1, o1, c1, e1, _, h1⟩⟩ := ha <;> obtain ⟨_, _, ⟨e', rfl⟩ | ⟨b2, o2, c2, e2, _, h2⟩⟩ := hb
  · rfl
  · rw [e] at e2; simp at e2
  · rw [e'] at e1; simp at e1
  · rw [e1] at e2
    simp only [Value.slice.injEq, Option.some.injEq, Addr.mk.injEq] at e2
    obtain ⟨⟨rfl, rfl, _⟩, hl, _⟩ := e2
    apply list_ext_getD hl
    intro i hi
    have := (h1 i hi).symm.trans (h2 i (by omega))
    simp only [Option.some.injEq, Value.int.injEq, true_and] at this
    exact Int.ofNat.inj this

theorem Num.unique {W : World} {b1 b2 : Nat} {v : Value} {M N : Nat} (h1 : Num W b1 v M) (h2 : Num W b2 v N) : M = N := by
  obtain ⟨d1, a1, _, rfl⟩ := h1.open
  obtain ⟨d2, a2, _, rfl⟩ := h2.open
  rw [a1.unique a2]

theorem newton_next {n r : Nat} (hr : 0 < r) : n < ((r + n / r) / 2 + 1) * ((r + n / r) / 2 + 1) := by
  have h1 : n < r * (n / r + 1) := by
    have := Nat.div_add_mod n r
    have := Nat.mod_lt n hr
    rw [Nat.mul_add, Nat.mul_one]
    omega
  generalize n / r = q at *
  obtain ⟨m, hm⟩ : ∃ m, (r + q) / 2 = m := ⟨_, rfl⟩
  rw [hm]
  have h2 : r + (q + 1) ≤ 2 * (m + 1) := by omega
  have h3 : (r + (q + 1)) * (r + (q + 1)) ≤ (2 * (m + 1)) * (2 * (m + 1)) := Nat.mul_le_mul h2 h2
  have h4 : 4 * (r * (q + 1)) ≤ (r + (q + 1)) * (r + (q + 1)) := by
    generalize q + 1 = s at *
    rcases Nat.le_total r s with h | h
    · obtain ⟨d, rfl⟩ := Nat.exists_eq_add_of_le h
      have : (r + (r + d)) * (r + (r + d)) = 4 * (r * (r + d)) + d * d := by
        simp only [Nat.mul_add, Nat.add_mul, Nat.mul_comm d r]; omega
      omega
    · obtain ⟨d, rfl⟩ := Nat.exists_eq_add_of_le h
      have : (s + d + s) * (s + d + s) = 4 * ((s + d) * s) + d * d := by
        simp only [Nat.mul_add, Nat.add_mul, Nat.mul_comm d s]; omega
      omega
  have h5 : (2 * (m + 1)) * (2 * (m + 1)) = 4 * ((m + 1) * (m + 1)) := by
    rw [Nat.mul_assoc, Nat.mul_left_comm (m + 1) 2, ← Nat.mul_assoc]
  omega

theorem newton_stop {n r : Nat} (h : ¬ (r + n / r) / 2 < r) : r * r ≤ n := by
  have h1 : r ≤ n / r := by omega
  have h2 := Nat.mul_le_mul_left r h1
  have := Nat.mul_div_le n r
  omega

theorem newton_pos {n r : Nat} (hn : 0 < n) (h : n < (r + 1) * (r + 1)) : 0 < r := by
  rcases Nat.eq_zero_or_pos r with rfl | h1
  · simp at h; omega
  · exact h1

theorem root_start (n : Nat) : n < (2 ^ ((bl n + 1) / 2) + 1) * (2 ^ ((bl n + 1) / 2) + 1) := by
  have h1 := lt_bl n
  have h2 : 2 ^ bl n ≤ 2 ^ ((bl n + 1) / 2) * 2 ^ ((bl n + 1) / 2) := by
    rw [← Nat.pow_add]; exact Nat.pow_le_pow_right (by omega) (by omega)
  generalize 2 ^ ((bl n + 1) / 2) = p at *
  have h3 : p * p ≤ (p + 1) * (p + 1) := Nat.mul_le_mul (by omega) (by omega)
  omega

theorem root_first {A : List Nat} (hs : small A) : 2 ^ ((bl (val A) + 1) / 2) < 4294967296 ^ (A.length + 1) := by
  have h1 := val_lt hs
  rw [B_pow] at h1
  have h2 := bl_le h1
  rw [B_pow]
  exact Nat.pow_lt_pow_right (by omega) (by omega)

theorem cell_new (w : World) (v : Value) (t : Nat) : (w.alloc (.cells #[v] t)).cell? ⟨w.heap.size, 0, none⟩ = some v := by
  unfold World.cell? World.alloc
  simp only [Array.getElem?_push_size]
  rfl
theorem Digs.one {W : World} {b off cap : Nat} (h : W.cell? ⟨b, off, none⟩ = some (.int .u32 1)) (hc : 1 ≤ cap) : Digs W (.slice (some ⟨b, off, none⟩) 1 cap) [1] := by
  refine ⟨by intro x hx; simp at hx; omega, by simp, .inr ⟨b, off, cap, rfl, hc, ?_⟩⟩
  intro j hj
  obtain rfl : j = 0 := by simp at hj; omega
  simpa using h

set_option maxRecDepth 100000 in
set_option maxHeartbeats 4000000 in
theorem root_no (va : Value) (A : List Nat) (w : World) (hA : Digs w va A) (h0 : val A = 0) :
    Calls Try.prog 20 #[va] w fun e w' => e = .returned (.slice none 0 0) ∧ Below w.heap.size w w' := by
  obtain ⟨aa, ca, rfl, hca⟩ := hA.shape
  have hz : sizeL A = 0 := by
    apply Classical.byContradiction
    intro h
    have h1 : 0 < (trimL A).length := by rw [length_trimL]; omega
    have := norm_val_pos (norm_trimL A) h1
    rw [val_trimL] at this
    omega
  have hz' : ((sizeL A : Int) == 0) = true := by simp [hz]
  clear hz h0
  go_enter Try.func20, Try.ntmps20
  go_wp2_with (go_at_call 35; refine (size_c _ _ _ hA).mono ?_; rintro e w1 ⟨rfl, hb1⟩)
  go_ret
  exact ⟨rfl, hb1⟩

set_option maxRecDepth 100000 in
set_option maxHeartbeats 4000000 in
/-- nat.Root. -/
theorem root_c (va : Value) (A : List Nat) (w : World) (hA : Digs w va A) (hla : A.length ≤ 50000) (h0 : 0 < val A) :
    Calls Try.prog 20 #[va] w fun e w' => (∃ v R, e = .returned v ∧ Num w' w.heap.size v R ∧ R * R ≤ val A ∧ val A < (R + 1) * (R + 1)) ∧ Below w.heap.size w w' := by
  obtain ⟨aa, ca, rfl, hca⟩ := hA.shape
  have hz : sizeL A ≠ 0 := by
    intro h
    rw [sizeL_zero_val h] at h0
    omega
  have hz' : ((sizeL A : Int) == 0) = false := by simp [hz]
  have hbl : bl (val A) ≤ 32 * A.length := by have := val_lt hA.1; rw [B_pow] at this; exact bl_le this
  have HS : Hid (val A < (2 ^ ((bl (val A) + 1) / 2) + 1) * (2 ^ ((bl (val A) + 1) / 2) + 1)) := root_start _
  have HF : Hid (2 ^ ((bl (val A) + 1) / 2) < 4294967296 ^ (A.length + 1)) := root_first hA.1
  have HP : Hid (0 < 2 ^ ((bl (val A) + 1) / 2)) := Nat.pow_pos (by omega)
  obtain ⟨L, hL⟩ : ∃ L, bl (val A) = L := ⟨_, rfl⟩
  rw [hL] at HS HF HP hbl
  go_enter Try.func20, Try.ntmps20
  go_wp2_with fail
  refine (size_c _ _ _ hA).mono ?_
  rintro e w1 ⟨rfl, hb1⟩
  go_wp2_with fail
  have hbA : Below w.heap.size w (w1.alloc (.cells #[.int .u32 1] 42)) := Below.alloc hb1 hb1.size _
  have hone : Digs (w1.alloc (.cells #[.int .u32 1] 42)) (.slice (some ⟨w1.heap.size, 0, none⟩) 1 1) [1] := Digs.one (cell_new _ _ _) (Nat.le_refl _)
  generalize w1.alloc (.cells #[.int .u32 1] 42) = w2 at *
  refine (len_c _ A _ (hA.below hbA (Nat.le_refl _))).mono ?_
  rintro e w3 ⟨rfl, hb3⟩
  rw [hL]
  have HL : Hid (bl (val A) = L) := hL
  clear hL
  have hA3 : Digs w3 (.slice aa A.length ca) A := (hA.below hbA (Nat.le_refl _)).below hb3 (Nat.le_refl _)
  have hone3 := hone.below hb3 (Nat.le_refl _)
  have hbw : Below w.heap.size w w3 := hbA.trans (hb3.mono hbA.size)
  clear hb1 hbA hb3 hone hA
  go_wp2_with fail
  refine (up_c _ [1] ((L + 1) / 2) _ hone3 (by simp) (by omega)).mono ?_
  rintro e w4 ⟨⟨v4, rfl, hn4⟩, hb4⟩
  have hn5 : Num w4 w.heap.size v4 (2 ^ ((L + 1) / 2)) := by
    have h := hn4.mono hbw.size
    rwa [show val [1] = 1 by simp [val], Nat.one_mul] at h
  have hA4 := hA3.below hb4 (Nat.le_refl _)
  have hb5 : Below w.heap.size w w4 := hbw.trans (hb4.mono hbw.size)
  clear hn4 hb4 hbw hA3 hone3
  have HN : Hid (2 ^ ((L + 1) / 2) = 2 ^ ((L + 1) / 2)) := rfl
  generalize 2 ^ ((L + 1) / 2) = r0 at *
  clear HN
  go_wp2_with fail
  go_loopw [2] (fun v wr => ∃ (r : Nat), Num wr w.heap.size v r ∧ Hid (0 < r) ∧ Hid (val A < (r + 1) * (r + 1)) ∧ Hid (r < 4294967296 ^ (A.length + 1)) ∧ Digs wr (.slice aa A.length ca) A ∧ Below w.heap.size w wr)
    (fun v wr => Classical.epsilon fun r => Num wr w.heap.size v r)
  case atStart => exact ⟨r0, hn5, HP, HS, HF, hA4, hb5⟩
  case round =>
    obtain ⟨r, hn, HP1, HV, HF1, hA1, hb⟩ := hrel
    clear hn5 HP HS HF hA4 hb5
    have hs0 := hb.size
    obtain ⟨rd, hrd, nrd, er⟩ := hn.open
    have HER : Hid (val rd = r) := er
    have hp : 0 < val rd := by rw [er]; exact HP1.out
    have hrl : rd.length ≤ A.length + 1 := len_of_lt nrd (by rw [er]; exact HF1.out)
    clear er
    go_wp2_with fail
    refine (div_c _ _ A rd _ hA1 hrd hla hp).mono ?_
    rintro e w5 ⟨⟨q, rr, rfl, hq, _⟩, hb5⟩
    have HQ : Hid (val A / val rd = val A / val rd) := rfl
    obtain ⟨qd, hqd, nqd, eq⟩ := hq.open
    have hql : qd.length ≤ A.length := len_of_lt nqd (by rw [eq]; exact Nat.lt_of_le_of_lt (Nat.div_le_self _ _) (val_lt hA1.1))
    have HEQ : Hid (val qd = val A / val rd) := eq
    clear HQ eq
    go_wp2_with fail
    refine (add_c _ _ rd qd _ (hrd.below hb5 (Nat.le_refl _)) hqd (by omega) (by omega)).mono ?_
    rintro e w6 ⟨⟨s, rfl, hs⟩, hb6⟩
    obtain ⟨sd, hsd, nsd, es⟩ := hs.open
    have hsl : sd.length ≤ A.length + 2 := by
      apply len_of_lt nsd
      rw [es, HER.out]
      have h1 := HF1.out
      have h2 := val_lt hqd.1
      have h3 : 4294967296 ^ qd.length ≤ 4294967296 ^ (A.length + 1) := Nat.pow_le_pow_right (by omega) (by omega)
      rw [Nat.pow_succ 4294967296 (A.length + 1)]
      omega
    have HES : Hid (val sd = val rd + val qd) := es
    clear es
    go_wp2_with fail
    refine (shr_c _ sd 1 _ hsd (by omega) (by omega) (by omega)).mono ?_
    rintro e w7 ⟨⟨t, rfl, ht⟩, hb7⟩
    obtain ⟨td, htd, ntd, et⟩ := ht.open
    have et2 : val td = (r + val A / r) / 2 := by rw [et, HES.out, HEQ.out, HER.out]; rfl
    have ht2 : Num w7 w6.heap.size t ((r + val A / r) / 2) := by rw [← et2, et]; exact ht
    have HET : Hid (val td = (r + val A / r) / 2) := et2
    generalize decide (val sd % 2 ^ (1 : Int).toNat = 0) = bb at *
    clear et et2 ht
    have hs5 := hb5.size
    have hs6 := hb6.size
    have hb57 : Below wr.heap.size wr w7 := (hb5.trans (hb6.mono hs5)).trans (hb7.mono (by omega))
    have hr7 := hrd.below hb57 (Nat.le_refl _)
    have hn7 := hn.below hb57 (Nat.le_refl _)
    go_wp2_with fail
    refine (cmp_c _ _ td rd _ htd hr7).mono ?_
    rintro e w8 ⟨rfl, hb8⟩
    have hb58 : Below wr.heap.size wr w8 := hb57.trans (hb8.mono hb57.size)
    have hb08 : Below w.heap.size w w8 := hb.trans (hb58.mono hs0)
    have hA8 := hA1.below hb58 (Nat.le_refl _)
    have hn8 := hn.below hb58 (Nat.le_refl _)
    have ht8 := (ht2.below hb8 (Nat.le_refl _)).mono (show w.heap.size ≤ w6.heap.size by omega)
    rw [HET.out, HER.out]
    by_cases hlt : (r + val A / r) / 2 < r
    · have ho : ¬ (0 : Int) ≤ ordN ((r + val A / r) / 2) r := by rw [ordN_lt hlt]; omega
      have HLT : Hid ((r + val A / r) / 2 < r) := hlt
      clear hlt
      generalize ordN ((r + val A / r) / 2) r = O at *
      go_wp2
      go_roundw
      case rel => 
        have h9 := newton_next (n := val A) HP1.out
        exact ⟨_, ht8, newton_pos h0 h9, h9, Nat.lt_trans HLT.out HF1.out, hA8, hb08⟩
      case measure =>
        have e1 : (Classical.epsilon fun r => Num wr w.heap.size u2 r) = r := (Classical.epsilon_spec (p := fun r => Num wr w.heap.size u2 r) ⟨r, hn⟩).unique hn
        have e2 : (Classical.epsilon fun r => Num w8 w.heap.size t r) = (r + val A / r) / 2 := (Classical.epsilon_spec (p := fun r => Num w8 w.heap.size t r) ⟨_, ht8⟩).unique ht8
        rw [e1, e2]
        exact HLT.out
    · have ho : (0 : Int) ≤ ordN ((r + val A / r) / 2) r := by
        rcases Nat.lt_or_eq_of_le (Nat.le_of_not_lt hlt) with h | h
        · rw [ordN_gt h]; omega
        · rw [← h, ordN_eq]; omega
      have HLT : Hid (r * r ≤ val A) := newton_stop hlt
      clear hlt
      generalize ordN ((r + val A / r) / 2) r = O at *
      go_wp2
      go_ret
      exact ⟨⟨_, r, rfl, hn8, HLT.out, HV.out⟩, hb08⟩
end Go.Proofs.Ytceonncbflmciaa
