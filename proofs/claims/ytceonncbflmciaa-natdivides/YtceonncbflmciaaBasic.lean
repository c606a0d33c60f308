/- nat.Check, nat.Len. -/
import Derived.Test.YtceonncbflmciaaBits
namespace Go.Proofs.Ytceonncbflmciaa
open Go.RowKit Go.Shelf

def normB (ds : List Nat) : Bool := decide (sizeL ds = ds.length)
theorem normB_true {ds : List Nat} : normB ds = true ↔ norm ds := by simp [normB, norm]

set_option maxHeartbeats 1000000 in
/-- nat.Check(n): whether there is no zero at its end. -/
theorem check_c (sv : Value) (ds : List Nat) (w : World) (hI : Digs w sv ds) :
    Calls Try.prog 24 #[sv] w fun e w' => e = .returned (.bool (normB ds)) ∧ Below w.heap.size w w' := by
  obtain ⟨a, cap, rfl, hcap⟩ := hI.shape
  have hl := sizeL_le ds
  have hl2 := hI.2.1
  by_cases h : sizeL ds = ds.length
  · have h' : ((sizeL ds : Int) == (ds.length : Int)) = true := by simp [h]
    have HN : Hid (normB ds = true) := by show normB ds = true; simp [normB, h]
    clear h
    go_enter Try.func24, Try.ntmps24
    go_wp2_with (go_at_call 35; refine (size_c _ _ _ hI).mono ?_; rintro e w' ⟨rfl, hb⟩)
    go_ret
    exact ⟨by rw [HN.out]; rfl, hb⟩
  · have h' : ((sizeL ds : Int) == (ds.length : Int)) = false := by simp; omega
    have HN : Hid (normB ds = false) := by show normB ds = false; simp [normB, h]
    clear h
    go_enter Try.func24, Try.ntmps24
    go_wp2_with (go_at_call 35; refine (size_c _ _ _ hI).mono ?_; rintro e w' ⟨rfl, hb⟩)
    go_ret
    exact ⟨by rw [HN.out]; rfl, hb⟩

/-- How many bits a number needs. -/
def bl (N : Nat) : Nat := if N = 0 then 0 else N.log2 + 1
theorem bl_zero : bl 0 = 0 := rfl
theorem lt_bl (N : Nat) : N < 2 ^ bl N := by
  unfold bl; split
  · omega
  · exact Nat.lt_log2_self
theorem bl_ge {N : Nat} (h : N ≠ 0) : 2 ^ (bl N - 1) ≤ N := by
  unfold bl; rw [if_neg h]; exact Nat.log2_self_le h
theorem bl_pos {N : Nat} (h : N ≠ 0) : 0 < bl N := by unfold bl; rw [if_neg h]; omega
theorem bl_eq {N k : Nat} (hk : 0 < k) (h1 : 2 ^ (k - 1) ≤ N) (h2 : N < 2 ^ k) : bl N = k := by
  have h0 : N ≠ 0 := by have : 0 < 2 ^ (k - 1) := Nat.pow_pos (by omega); omega
  have a := lt_bl N
  have b := bl_ge h0
  have c := bl_pos h0
  have d : k - 1 < bl N := (Nat.pow_lt_pow_iff_right (show 1 < 2 by omega)).1 (Nat.lt_of_le_of_lt h1 a)
  have e : bl N - 1 < k := (Nat.pow_lt_pow_iff_right (show 1 < 2 by omega)).1 (Nat.lt_of_le_of_lt b h2)
  omega
theorem bl_le {N k : Nat} (h2 : N < 2 ^ k) : bl N ≤ k := by
  by_cases h0 : N = 0
  · subst h0; rw [bl_zero]; omega
  · have b := bl_ge h0
    have e : bl N - 1 < k := (Nat.pow_lt_pow_iff_right (show 1 < 2 by omega)).1 (Nat.lt_of_le_of_lt b h2)
    omega

theorem B_pow (k : Nat) : (4294967296 : Nat) ^ k = 2 ^ (32 * k) := by rw [Nat.pow_mul]

/-- The top digit of a number, and the rest. -/
theorem val_top (ds : List Nat) (h : 0 < ds.length) : val ds = val (ds.take (ds.length - 1)) + 4294967296 ^ (ds.length - 1) * ds[ds.length - 1]?.getD 0 := by
  rw [val_split ds (ds.length - 1)]
  have e : ds.drop (ds.length - 1) = [ds[ds.length - 1]?.getD 0] := by
    rw [List.drop_eq_getElem_cons (by omega)]
    simp [show ds.length - 1 < ds.length from by omega, List.drop_eq_nil_of_le (show ds.length ≤ ds.length - 1 + 1 by omega)]
  rw [e]
  simp [val]

theorem bl_digs (ds : List Nat) (hs : small ds) (h : 0 < sizeL ds) : bl (val ds) = (sizeL ds - 1) * 32 + Lib.bitLen (ds[sizeL ds - 1]?.getD 0) := by
  have ht := sizeL_top ds h
  have hlt := small_getD hs (sizeL ds - 1)
  have a := bitLen_lt _ hlt
  have b := bitLen_ge (ds[sizeL ds - 1]?.getD 0) (by omega)
  have hv := val_top (trimL ds) (by rw [length_trimL]; exact h)
  rw [val_trimL, length_trimL, getD_trimL] at hv
  have hlow : val ((trimL ds).take (sizeL ds - 1)) < 4294967296 ^ (sizeL ds - 1) := by
    have := val_lt (small_take (sizeL ds - 1) (small_trimL hs))
    rwa [List.length_take, length_trimL, show min (sizeL ds - 1) (sizeL ds) = sizeL ds - 1 from by omega] at this
  generalize hd : ds[sizeL ds - 1]?.getD 0 = d at *
  generalize val ((trimL ds).take (sizeL ds - 1)) = lo at *
  have hbp : 0 < Lib.bitLen d := by
    rcases Nat.eq_zero_or_pos (Lib.bitLen d) with h0 | h0
    · rw [h0] at a; simp at a; omega
    · exact h0
  apply bl_eq (by omega)
  · rw [hv, show (sizeL ds - 1) * 32 + Lib.bitLen d - 1 = 32 * (sizeL ds - 1) + (Lib.bitLen d - 1) from by omega, Nat.pow_add, ← B_pow]
    exact Nat.le_trans (Nat.mul_le_mul_left _ b) (Nat.le_add_left _ _)
  · rw [hv, show (sizeL ds - 1) * 32 + Lib.bitLen d = 32 * (sizeL ds - 1) + Lib.bitLen d from by omega, Nat.pow_add, ← B_pow]
    have h1 : d + 1 ≤ 2 ^ Lib.bitLen d := a
    have h2 := Nat.mul_le_mul_left (4294967296 ^ (sizeL ds - 1)) h1
    rw [Nat.mul_add, Nat.mul_one] at h2
    omega
theorem sizeL_zero_val {ds : List Nat} (h : sizeL ds = 0) : val ds = 0 := val_zeros ds fun i => sizeL_zero ds i (by omega)

set_option maxHeartbeats 1000000 in
/-- nat.Len(n). -/
theorem len_c (sv : Value) (ds : List Nat) (w : World) (hI : Digs w sv ds) :
    Calls Try.prog 25 #[sv] w fun e w' => e = .returned (.int .i64 (bl (val ds) : Nat)) ∧ Below w.heap.size w w' := by
  have hl := sizeL_le ds
  have hl2 := hI.2.1
  have hsm := hI.1
  by_cases h : sizeL ds = 0
  · obtain ⟨a, cap, rfl, hcap⟩ := hI.shape
    have h' : ((sizeL ds : Int) == 0) = true := by simp [h]
    have HV : Hid (bl (val ds) = 0) := by show _ = 0; rw [sizeL_zero_val h, bl_zero]
    clear h
    go_enter Try.func25, Try.ntmps25
    go_wp2_with (go_at_call 35; refine (size_c _ _ _ hI).mono ?_; rintro e w' ⟨rfl, hb⟩)
    go_ret
    exact ⟨by rw [HV.out]; rfl, hb⟩
  · have h' : ((sizeL ds : Int) == 0) = false := by simp [h]
    have HV : Hid (bl (val ds) = (sizeL ds - 1) * 32 + Lib.bitLen (ds[sizeL ds - 1]?.getD 0)) := bl_digs ds hsm (by omega)
    obtain ⟨d, hd⟩ : ∃ d, ds[sizeL ds - 1]?.getD 0 = d := ⟨_, rfl⟩
    have hdl : d < 4294967296 := by rw [← hd]; exact small_getD hsm _
    have hbl : Lib.bitLen d ≤ 32 := Lib.bitLen_le d 32 (by omega) (by omega)
    rw [hd] at HV
    obtain ⟨b, off, cap, hsv, hcap, hcell⟩ : ∃ b off cap, sv = .slice (some ⟨b, off, none⟩) ds.length cap ∧ ds.length ≤ cap ∧ w.cell? ⟨b, off + (sizeL ds - 1), none⟩ = some (.int .u32 (d : Int)) := by
      obtain ⟨_, _, ⟨_, rfl⟩ | ⟨b, off, cap, e, hc, hj⟩⟩ := hI
      · simp [sizeL] at h
      · exact ⟨b, off, cap, e, hc, by rw [hj _ (by omega), hd]⟩
    subst hsv
    have hblk := lt_of_cell hcell
    clear hd
    go_enter Try.func25, Try.ntmps25
    go_wp2_with (first | (go_at_call 35; refine (size_c _ _ _ hI).mono ?_; rintro e w1 ⟨rfl, hb⟩; have hcell1 := (hb.cell (p := ⟨b, off + (sizeL ds - 1), none⟩) hblk).trans hcell) | (go_at_call 44; refine (len32_c _ hdl _).mono ?_; rintro e w2 ⟨rfl, rfl⟩))
    go_ret
    exact ⟨ret_one (by rw [HV.out]; omega), hb⟩

/-- nat.trim(n), with what it holds. -/
theorem trim_d (a : Option Addr) (cap : Nat) (ds : List Nat) (w : World) (hI : Digs w (.slice a ds.length cap) ds) :
    Calls Try.prog 27 #[.slice a ds.length cap] w fun e W' => e = .returned (.slice a (trimL ds).length cap) ∧ Below w.heap.size w W' := by
  rw [length_trimL]; exact trim_c a cap ds w hI
theorem Digs.trim' {W : World} {a : Option Addr} {cap : Nat} {ds : List Nat} (h : Digs W (.slice a ds.length cap) ds) : Digs W (.slice a (trimL ds).length cap) (trimL ds) := by
  rw [length_trimL]; exact h.trim
/-- A digit's cell. -/
theorem Digs.cell {W : World} {sv : Value} {ds : List Nat} (h : Digs W sv ds) (h0 : 0 < ds.length) : ∃ b off cap, sv = .slice (some ⟨b, off, none⟩) ds.length cap ∧ b < W.heap.size ∧ ∀ j, j < ds.length → W.cell? ⟨b, off + j, none⟩ = some (.int .u32 ((ds[j]?.getD 0 : Nat) : Int)) := by
  obtain ⟨_, _, ⟨_, rfl⟩ | ⟨b, off, cap, e, _, hj⟩⟩ := h
  · simp at h0
  · exact ⟨b, off, cap, e, lt_of_cell (hj 0 h0), hj⟩

theorem val_take_succ (l : List Nat) (k : Nat) : val (l.take (k + 1)) = val (l.take k) + 4294967296 ^ k * l[k]?.getD 0 := by
  by_cases h : k < l.length
  · rw [List.take_succ_eq_append_getElem h, val_append]
    simp [val, h, show min k l.length = k from by omega]
  · rw [List.take_of_length_le (by omega), List.take_of_length_le (by omega)]
    simp [List.getElem?_eq_none (show l.length ≤ k by omega)]
theorem val_snoc (ds : List Nat) (d : Nat) : val (ds ++ [d]) = val ds + 4294967296 ^ ds.length * d := by
  rw [val_append]; simp [val]
end Go.Proofs.Ytceonncbflmciaa
