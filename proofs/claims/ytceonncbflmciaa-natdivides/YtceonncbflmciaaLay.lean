/- (*digits).lay and (*digits).number: digits on their way, in memory of their own. -/
import Derived.Maps.AppendAt
import Derived.Test.YtceonncbflmciaaSize
namespace Go.Proofs.Ytceonncbflmciaa
open Go.RowKit Go.Shelf

theorem Try.info42 : (Try.prog.info? 42).map (fun i => (i.zero, i.size, i.bytes)) = some (some (.int .u32 0), 1, 4) := by kernel_rfl

/-- The slice value v owns a row of its own (blocks from 'base' on), whose first cells are the digits ds. -/
def Own (W : World) (base : Nat) (v : Value) (ds : List Nat) : Prop :=
  small ds ∧ ds.length ≤ 1000000 ∧ W.ownsRow base 42 1 v ds.length (ds.map dv)

theorem Own.digs {W : World} {base : Nat} {v : Value} {ds : List Nat} (h : Own W base v ds) : Digs W v ds := by
  obtain ⟨h1, h2, _, h3⟩ := h
  refine ⟨h1, h2, ?_⟩
  rcases h3 with ⟨e, hn⟩ | ⟨g, cap, cur, e, hb, hg, hn, hc, hs, ht⟩
  · exact .inl ⟨e, List.length_eq_zero_iff.1 hn⟩
  · refine .inr ⟨g, 0, cap, e, hn, fun j hj => ?_⟩
    have hj2 : (cur.toList.take (ds.length * 1))[j]? = (ds.map dv)[j]? := by rw [ht]
    have hj3 : cur[j]? = some (dv ds[j]) := by
      rw [List.getElem?_take_of_lt (by omega), List.getElem?_map] at hj2
      simpa [hj] using hj2
    simp only [World.cell?, hg, Nat.zero_add]
    simp [hj3, hj]

theorem Own.below {W W' : World} {base n : Nat} {v : Value} {ds : List Nat} (h : Own W base v ds) (hb : Below n W W') (hn : W.heap.size ≤ n) : Own W' base v ds := by
  obtain ⟨h1, h2, h4, h3⟩ := h
  refine ⟨h1, h2, h4, ?_⟩
  rcases h3 with h3 | ⟨g, cap, cur, e, hbb, hg, hn', hc, hs, ht⟩
  · exact .inl h3
  · exact .inr ⟨g, cap, cur, e, hbb, (hb.block g (by have := (Array.getElem?_eq_some_iff.1 hg).1; omega)).trans hg, hn', hc, hs, ht⟩

theorem Own.mono {W : World} {base base' : Nat} {v : Value} {ds : List Nat} (h : Own W base v ds) (hb : base' ≤ base) : Own W base' v ds := by
  obtain ⟨h1, h2, h4, h3⟩ := h
  refine ⟨h1, h2, h4, ?_⟩
  rcases h3 with h3 | ⟨g, cap, cur, e, hbb, hg, hn', hc, hs, ht⟩
  · exact .inl h3
  · exact .inr ⟨g, cap, cur, e, by omega, hg, hn', hc, hs, ht⟩

theorem Own.nil (W : World) (base : Nat) : Own W base (.slice none 0 0) [] := ⟨small_nil, by simp, by simp [World.ownsRow]⟩

theorem Own.take {W : World} {base : Nat} {a : Option Addr} {cap : Nat} {ds : List Nat} (h : Own W base (.slice a ds.length cap) ds) (k : Nat) (hk : k ≤ ds.length) : Own W base (.slice a k cap) (ds.take k) := by
  obtain ⟨h1, h2, h4, h3⟩ := h
  have hl : (ds.take k).length = k := by simp; omega
  refine ⟨small_take _ h1, by omega, by simp, ?_⟩
  rcases h3 with ⟨e, hn⟩ | ⟨g, cap', cur, e, hbb, hg, hn', hc, hs, ht⟩
  · have : k = 0 := by omega
    subst this
    simp only [Value.slice.injEq] at e
    obtain ⟨rfl, _, rfl⟩ := e
    exact .inl ⟨rfl, by simp⟩
  · simp only [Value.slice.injEq] at e
    obtain ⟨rfl, _, rfl⟩ := e
    refine .inr ⟨g, cap, cur, by rw [hl], hbb, hg, by omega, hc, hs, ?_⟩
    rw [hl]
    have := congrArg (List.take k) ht
    rw [List.take_take, show min k (ds.length * 1) = k * 1 from by omega] at this
    rw [this, List.map_take]

theorem small_snoc {ds : List Nat} {d : Nat} (h : small ds) (hd : d < 4294967296) : small (ds ++ [d]) := small_append.2 ⟨h, small_cons.2 ⟨hd, small_nil⟩⟩

set_option maxHeartbeats 1000000 in
/-- d.lay(x): one more digit on top; what does not fit into it is answered. -/
theorem lay_c (w : World) (B n₀ : Nat) (v : Value) (ds : List Nat) (x : Nat) (hB : Boxed w B 43 v) (ho : Own w n₀ v ds) (hl : ds.length + 1 ≤ 1000000) (hn : n₀ ≤ B) :
    Calls Try.prog 29 #[.pointer (some ⟨B, 0, none⟩), .int .u64 (x : Int)] w fun e w' => e = .returned (.int .u64 ((x / 4294967296 : Nat) : Int)) ∧ (∃ v', Boxed w' B 43 v' ∧ Own w' n₀ v' (ds ++ [x % 4294967296])) ∧ Below n₀ w w' := by
  obtain ⟨i0, hi, hz0, hz1, hz2⟩ := info_parts Try.info42
  have hBl := hB.lt
  have hc := hB.cell
  have hrow := ho.2.2
  go_enter Try.func29, Try.ntmps29
  go_wp2_with (at_builtin; refine wpList_append_own _ rfl _ _ 43 rfl n₀ 42 i0 (.int .u32 0) 1 4 Try.underlying43 hi hz0 hz1 hz2 rfl (by decide) _ _ _ rfl (hrow.alloc _) ⟨w.heap.size, 0, none⟩ 1 1 [_] rfl rfl (cell_one_new _ _ _) (by simp [Value.oneCell']) (by unfold maxLen; omega) (by omega) (by simp; omega) ?_; intro v' w1 hown' hgrow _; obtain ⟨g', cap', rfl⟩ := ownsRow_succ hown'; obtain ⟨hv1, hv2, hr2, hk2, hb2⟩ := hB.appended (by decide) hrow (by omega) hn hown' hgrow; have hc1 := hv1.cell; have hf1 := hv1.frozen)
  go_ret
  refine ⟨by simp, ⟨_, hv2, small_snoc ho.1 (Nat.mod_lt _ (by omega)), by simpa using hl, ?_⟩, hb2⟩
  simpa [dv] using hr2

/-- The box of d, and what it owns; behind what turns nothing below. -/
theorem boxed_below {W W' : World} {B t n : Nat} {v : Value} (h : Boxed W B t v) (hb : Below n W W') (hn : W.heap.size ≤ n) : Boxed W' B t v := (hb.block B (by have := h.lt; omega)).trans h

set_option maxHeartbeats 1000000 in
/-- d.number(): the digits without the zeros at their end; nil, if there are none. -/
theorem number_c (w : World) (B n₀ : Nat) (v : Value) (ds : List Nat) (hB : Boxed w B 43 v) (ho : Own w n₀ v ds) :
    Calls Try.prog 30 #[.pointer (some ⟨B, 0, none⟩)] w fun e w' => (∃ v', e = .returned v' ∧ Own w' n₀ v' (trimL ds)) ∧ Below w.heap.size w w' := by
  have hBl := hB.lt
  have hc := hB.cell
  have hd := ho.digs
  obtain ⟨a, cap, rfl, hcap⟩ := hd.shape
  have hl := sizeL_le ds
  have hl2 := hd.2.1
  go_enter Try.func30, Try.ntmps30
  by_cases hz : sizeL ds = 0
  · have hz' : ((sizeL ds : Int) == 0) = true := by simp [hz]
    have HZ : Hid (sizeL ds = 0) := hz
    clear hz
    go_wp2_with (go_at_call 27; refine (trim_c _ _ _ _ hd).mono ?_; rintro e w' ⟨rfl, hb⟩)
    go_ret
    exact ⟨⟨_, rfl, by rw [show trimL ds = [] by rw [trimL, HZ.out]; rfl]; exact Own.nil _ _⟩, hb⟩
  · have hz' : ((sizeL ds : Int) == 0) = false := by simp [hz]
    go_wp2_with (go_at_call 27; refine (trim_c _ _ _ _ hd).mono ?_; rintro e w' ⟨rfl, hb⟩)
    go_ret
    exact ⟨⟨_, rfl, (ho.below hb (Nat.le_refl _)).take _ hl⟩, hb⟩
end Go.Proofs.Ytceonncbflmciaa
