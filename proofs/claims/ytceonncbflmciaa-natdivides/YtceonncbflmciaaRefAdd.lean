/- levellingref02.Add. -/
import Derived.Test.YtceonncbflmciaaRefCmp
namespace Go.Proofs.Ytceonncbflmciaa
open Go.RowKit Go.Shelf

/-- Behind 'out = append(out, x)', out the call's own. -/
theorem app_fin {w wr w1 : World} {base : Nat} {v v' : Value} {ds : List Nat} {d : Nat} {x : Int} {o : Obj} (h : Own wr base v ds) (hb : Below base w wr) (hn : base ≤ wr.heap.size) (hown : w1.ownsRow base 42 1 v' (ds.length + 1) (ds.map dv ++ [.int .u32 x])) (hgrow : (wr.alloc o).grownBy w1 v.ownBlock) (hx : x = (d : Int)) (hd : d < 4294967296) (hl : ds.length + 1 ≤ 1000000) :
    Own w1 base v' (ds ++ [d]) ∧ Below base w w1 := by
  subst hx
  refine ⟨⟨small_snoc h.1 hd, by simpa using hl, by simpa [dv] using hown⟩, Below.grown (Below.alloc hb hn _) hgrow (by simp; omega) ?_⟩
  intro k e
  rcases h.2.2.2 with ⟨rfl, _⟩ | ⟨g, cap, cur, rfl, hg, _⟩
  · cases e
  · cases e; exact hg

theorem radd_step {A B ds : List Nat} {k c x y : Nat} (hA : A[k]?.getD 0 = x) (hB : B[k]?.getD 0 = y) (hl : ds.length = k) (hv : val ds + 4294967296 ^ k * c = val (A.take k) + val (B.take k)) :
    val (ds ++ [(x + y + c) % 4294967296]) + 4294967296 ^ (k + 1) * ((x + y + c) / 4294967296) = val (A.take (k + 1)) + val (B.take (k + 1)) := by
  rw [val_snoc, val_take_succ, val_take_succ, hl, hA, hB, Nat.pow_succ, Nat.mul_assoc]
  have h := Nat.mod_add_div (x + y + c) 4294967296
  generalize (x + y + c) % 4294967296 = d at *
  generalize (x + y + c) / 4294967296 = q at *
  have h2 : 4294967296 ^ k * (d + 4294967296 * q) = 4294967296 ^ k * (x + y + c) := by rw [h]
  rw [Nat.mul_add, Nat.mul_add, Nat.mul_add] at h2
  omega

theorem radd_end {A B ds : List Nat} {k : Nat} (h1 : A.length ≤ k) (h2 : B.length ≤ k) (hv : val ds + 4294967296 ^ k * 0 = val (A.take k) + val (B.take k)) : val ds = val A + val B := by
  rw [List.take_of_length_le h1, List.take_of_length_le h2] at hv
  omega

set_option maxRecDepth 100000 in
set_option maxHeartbeats 4000000 in
/-- levellingref02.Add. -/
theorem radd_c (va vb : Value) (A B : List Nat) (w : World) (hA : Digs w va A) (hB : Digs w vb B) (hla : A.length ≤ 100000) (hlb : B.length ≤ 100000) :
    Calls Try.prog 13 #[va, vb] w fun e w' => (∃ v, e = .returned v ∧ Res w' v (val A + val B)) ∧ Below w.heap.size w w' := by
  obtain ⟨i0, hi, hz0, hz1, hz2⟩ := info_parts Try.info42
  obtain ⟨aa, ca, rfl, hca⟩ := hA.shape
  obtain ⟨ab, cb, rfl, hcb⟩ := hB.shape
  have sA := hA.1
  have sB := hB.1
  obtain ⟨M, hM1, hM2, hM3⟩ : ∃ M, A.length ≤ M ∧ B.length ≤ M ∧ M ≤ 100000 := ⟨max A.length B.length, by omega, by omega, by omega⟩
  go_enter Try.func13, Try.ntmps13
  go_wp2_with fail
  go_loopw [5, 6, 7] (fun o c i wr => ∃ (k cn : Nat) (ds : List Nat), k ≤ M + 1 ∧ i = .int .i64 (k : Int) ∧ c = .int .u64 (cn : Int) ∧ cn ≤ 1 ∧ Hid (M < k → cn = 0) ∧ Hid (ds.length = k) ∧ Hid (val ds + 4294967296 ^ k * cn = val (A.take k) + val (B.take k)) ∧ Own wr w.heap.size o ds ∧ Below w.heap.size w wr)
    (fun _ _ i _ => M + 2 - (intOf i).toNat)
  case atStart => exact ⟨0, 0, [], by omega, rfl, rfl, by omega, fun h => by omega, rfl, by show _ = _; simp [val], Own.nil _ _, Below.refl _ _⟩
  case round =>
    obtain ⟨k, cn, ds, hk, rfl, rfl, hcn, HC, HD, HV, ho, hb⟩ := hrel
    have hs0 := hb.size
    obtain ⟨x, hx⟩ : ∃ x, A[k]?.getD 0 = x := ⟨_, rfl⟩
    obtain ⟨y, hy⟩ : ∃ y, B[k]?.getD 0 = y := ⟨_, rfl⟩
    have hxs : x < 4294967296 := by rw [← hx]; exact small_getD sA k
    have hys : y < 4294967296 := by rw [← hy]; exact small_getD sB k
    have HX : Hid (A[k]?.getD 0 = x) := hx
    have HY : Hid (B[k]?.getD 0 = y) := hy
    have hdl : ds.length + 1 ≤ 1000000 := by rw [HD.out]; omega
    have hrow := ho.2.2
    clear hx hy
    have hA' := hA.below hb (Nat.le_refl _)
    have hB' := hB.below hb (Nat.le_refl _)
    by_cases hex : (k < A.length ∨ (¬ k < A.length ∧ k < B.length)) ∨ (¬ k < A.length ∧ ¬ k < B.length ∧ 0 < cn)
    · have hk2 : k ≤ M := by
        apply Classical.byContradiction
        intro h
        have := HC.out (by omega)
        omega
      rcases hex with (h | ⟨h, h'⟩) | ⟨h, h', h''⟩
      all_goals
        go_wp2_with fail
        refine (at_c _ A k _ hA').mono ?_
        rintro e w5 ⟨rfl, rfl⟩
        rw [HX.out]
        go_wp2_with fail
        refine (at_c _ B k _ hB').mono ?_
        rintro e w5 ⟨rfl, rfl⟩
        rw [HY.out]
        go_wp2_with (at_builtin; refine wpList_append_own _ rfl _ _ 22 rfl w.heap.size 42 i0 (.int .u32 0) 1 4 Try.underlying22 hi hz0 hz1 hz2 rfl (by decide) _ _ _ rfl (hrow.alloc _) ⟨w5.heap.size, 0, none⟩ 1 1 [_] rfl rfl (cell_one_new _ _ _) (by simp [Value.oneCell']) (by unfold maxLen; omega) (by omega) (by simp; omega) ?_; intro v' w1 hown' hgrow _)
        go_roundw
        case rel =>
          obtain ⟨hO, hB2⟩ := app_fin (d := (x + y + cn) % 4294967296) ho hb hs0 hown' hgrow (by omega) (Nat.mod_lt _ (by omega)) hdl
          refine ⟨k + 1, (x + y + cn) / 4294967296, _, by omega, by go_num, congrArg (Value.int .u64) (by omega), by omega, ?_, ?_, radd_step HX.out HY.out HD.out HV.out, hO, hB2⟩
          · intro hMk
            have h1 := HX.out
            have h2 := HY.out
            rw [List.getElem?_eq_none (by omega)] at h1 h2
            simp only [Option.getD_none] at h1 h2
            omega
          · show _ = _
            rw [List.length_append, HD.out]; rfl
        case measure => simp [intOf]; omega
    · obtain rfl : cn = 0 := by omega
      have hk1 : ¬ k < A.length := by omega
      have hk3 : ¬ k < B.length := by omega
      clear hex
      go_wp2_with fail
      refine (rtrim_c _ ds _ ho.digs).mono ?_
      rintro e w6 ⟨⟨v6, rfl, h6⟩, hb6⟩
      go_wp2
      go_ret
      exact ⟨⟨_, rfl, trimL ds, h6, norm_trimL _, by rw [val_trimL]; exact radd_end (by omega) (by omega) HV.out⟩, hb.trans (hb6.mono hs0)⟩
end Go.Proofs.Ytceonncbflmciaa
