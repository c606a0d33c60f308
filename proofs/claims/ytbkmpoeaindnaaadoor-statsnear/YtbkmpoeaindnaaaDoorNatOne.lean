/- Plain mathematics of digits to the base 2^32: their number, numbers without zeros at their end. Nothing of the program. -/
import Derived.KernelRfl
import Derived.Test.YtbkmpoeaindnaaaDoorProg
import Derived.RangeFuncNested
import Derived.RangeFuncBound
import Derived.RangeFuncCalls
import Derived.RangeFuncLeaves
import Derived.RangeFuncBox
import Derived.Shelf.Abstract
import Derived.WalkKit
import Derived.OwnWalkIn
import Derived.TacticsInMore
import Derived.LoopNIn
import Derived.LoopIn
import Derived.WalkLawsBesides
import Derived.Maps.AppendAt
import Derived.Laws.BitsAllLaws
import Derived.Deep.RegionWith
import Derived.Laws.OwnMore
import Derived.Laws.MakeOwn
namespace Go.Proofs.YtbkmpoeaindnaaaDoor.N


/-- The number of digits, the lowest first. -/
def val : List Nat → Nat
  | [] => 0
  | d :: r => d + 4294967296 * val r

def small (l : List Nat) : Prop := ∀ d, d ∈ l → d < 4294967296

/-- How many digits there are, but for zeros at the end. -/
def sizeL : List Nat → Nat
  | [] => 0
  | d :: r => if sizeL r = 0 then (if d = 0 then 0 else 1) else sizeL r + 1

def trimL (l : List Nat) : List Nat := l.take (sizeL l)

/-- No zero at the end. -/
def norm (l : List Nat) : Prop := sizeL l = l.length

theorem small_nil : small [] := by intro d h; cases h
theorem small_cons {d : Nat} {r : List Nat} : small (d :: r) ↔ d < 4294967296 ∧ small r := by
  simp [small]
theorem small_append {a b : List Nat} : small (a ++ b) ↔ small a ∧ small b := by
  simp only [small, List.mem_append]
  exact ⟨fun h => ⟨fun d hd => h d (.inl hd), fun d hd => h d (.inr hd)⟩, fun h d hd => hd.elim (h.1 d) (h.2 d)⟩
theorem small_take {l : List Nat} (k : Nat) (h : small l) : small (l.take k) := fun d hd => h d (List.mem_of_mem_take hd)
theorem small_drop {l : List Nat} (k : Nat) (h : small l) : small (l.drop k) := fun d hd => h d (List.mem_of_mem_drop hd)
theorem small_getD {l : List Nat} (h : small l) (i : Nat) : l[i]?.getD 0 < 4294967296 := by
  by_cases hi : i < l.length
  · simp [hi]; exact h _ (List.getElem_mem hi)
  · simp [List.getElem?_eq_none (by omega : l.length ≤ i)]
theorem small_set {l : List Nat} (h : small l) (i x : Nat) (hx : x < 4294967296) : small (l.set i x) := by
  intro d hd
  rcases List.mem_or_eq_of_mem_set hd with h1 | h1
  · exact h d h1
  · omega
theorem small_replicate (k : Nat) : small (List.replicate k 0) := by
  intro d hd; have := List.eq_of_mem_replicate hd; omega

theorem sizeL_le (l : List Nat) : sizeL l ≤ l.length := by
  induction l with
  | nil => simp [sizeL]
  | cons d r ih => simp only [sizeL, List.length_cons]; split <;> (try split) <;> omega

theorem sizeL_zero (l : List Nat) : ∀ i : Nat, sizeL l ≤ i → l[i]?.getD 0 = 0 := by
  induction l with
  | nil => simp
  | cons d r ih =>
    intro i hi
    simp only [sizeL] at hi
    cases i with
    | zero =>
      split at hi
      · split at hi
        · simpa
        · omega
      · omega
    | succ i =>
      have : sizeL r ≤ i := by
        split at hi
        · omega
        · omega
      simpa using ih i this

theorem sizeL_top (l : List Nat) : 0 < sizeL l → l[sizeL l - 1]?.getD 0 ≠ 0 := by
  induction l with
  | nil => simp [sizeL]
  | cons d r ih =>
    intro h
    simp only [sizeL] at h ⊢
    by_cases hr : sizeL r = 0
    · simp only [hr, if_true] at h ⊢
      by_cases hd : d = 0
      · simp [hd] at h
      · simp [hd]
    · simp only [hr, if_false] at h ⊢
      have := ih (by omega)
      rw [show sizeL r + 1 - 1 = (sizeL r - 1) + 1 from by omega]
      simpa using this

/-- What the search from behind finds. -/
theorem sizeL_eq (l : List Nat) (k : Nat) (h0 : ∀ i : Nat, k ≤ i → l[i]?.getD 0 = 0) (h1 : 0 < k → l[k - 1]?.getD 0 ≠ 0) : sizeL l = k := by
  have a := sizeL_zero l
  have b := sizeL_top l
  rcases Nat.lt_trichotomy (sizeL l) k with h | h | h
  · exact absurd (a (k - 1) (by omega)) (h1 (by omega))
  · exact h
  · exact absurd (h0 (sizeL l - 1) (by omega)) (b (by omega))

theorem val_append (a b : List Nat) : val (a ++ b) = val a + 4294967296 ^ a.length * val b := by
  induction a with
  | nil => simp [val]
  | cons d r ih =>
    simp only [List.cons_append, val, ih, List.length_cons, Nat.pow_succ]
    rw [Nat.mul_add, Nat.add_assoc, ← Nat.mul_assoc, Nat.mul_comm 4294967296 (4294967296 ^ r.length)]
theorem val_lt {l : List Nat} (h : small l) : val l < 4294967296 ^ l.length := by
  induction l with
  | nil => simp [val]
  | cons d r ih =>
    have ⟨h1, h2⟩ := small_cons.1 h
    have := ih h2
    simp only [val, List.length_cons, Nat.pow_succ]
    omega
theorem val_zeros (l : List Nat) (h : ∀ i : Nat, l[i]?.getD 0 = 0) : val l = 0 := by
  induction l with
  | nil => rfl
  | cons d r ih =>
    have h0 := h 0
    simp at h0
    have := ih (fun i => by have := h (i + 1); simpa using this)
    simp [val, this, h0]
theorem val_replicate (k : Nat) : val (List.replicate k 0) = 0 := by
  induction k with
  | zero => rfl
  | succ k ih => simp [List.replicate_succ, val, ih]
theorem val_split (l : List Nat) (k : Nat) : val l = val (l.take k) + 4294967296 ^ (l.take k).length * val (l.drop k) := by
  conv => lhs; rw [← List.take_append_drop k l]
  rw [val_append]

theorem getD_take (l : List Nat) (k i : Nat) : (l.take k)[i]?.getD 0 = if i < k then l[i]?.getD 0 else 0 := by
  rw [List.getElem?_take]; split <;> simp
theorem getD_drop (l : List Nat) (k i : Nat) : (l.drop k)[i]?.getD 0 = l[k + i]?.getD 0 := by
  rw [List.getElem?_drop]

theorem val_trimL (l : List Nat) : val (trimL l) = val l := by
  rw [val_split l (sizeL l), val_zeros (l.drop (sizeL l))]
  · simp [trimL]
  · intro i; rw [getD_drop]; exact sizeL_zero l _ (by omega)
theorem length_trimL (l : List Nat) : (trimL l).length = sizeL l := by
  have := sizeL_le l
  simp [trimL]; omega
theorem small_trimL {l : List Nat} (h : small l) : small (trimL l) := small_take _ h
theorem getD_trimL (l : List Nat) (i : Nat) : (trimL l)[i]?.getD 0 = l[i]?.getD 0 := by
  rw [trimL, getD_take]
  split
  · rfl
  · rw [sizeL_zero l i (by omega)]
theorem norm_trimL (l : List Nat) : norm (trimL l) := by
  unfold norm
  rw [length_trimL]
  apply sizeL_eq
  · intro i hi; rw [getD_trimL]; exact sizeL_zero l i hi
  · intro h; rw [getD_trimL]; exact sizeL_top l h
theorem trimL_norm {l : List Nat} (h : norm l) : trimL l = l := by
  rw [trimL, show sizeL l = l.length from h, List.take_length]
theorem norm_nil : norm [] := rfl

theorem val_ge {l : List Nat} (h : norm l) (h0 : 0 < l.length) : 4294967296 ^ (l.length - 1) ≤ val l := by
  have ht := sizeL_top l (by rw [show sizeL l = l.length from h]; exact h0)
  rw [show sizeL l = l.length from h] at ht
  rw [val_split l (l.length - 1)]
  have e : l.drop (l.length - 1) = [l[l.length - 1]?.getD 0] := by
    rw [List.drop_eq_getElem_cons (by omega)]
    simp [show l.length - 1 < l.length from by omega, List.drop_eq_nil_of_le (show l.length ≤ l.length - 1 + 1 by omega)]
  rw [e]
  simp only [val, Nat.mul_zero, Nat.add_zero]
  have : (l.take (l.length - 1)).length = l.length - 1 := by simp
  rw [this]
  have : 1 ≤ l[l.length - 1]?.getD 0 := by omega
  calc 4294967296 ^ (l.length - 1) = 4294967296 ^ (l.length - 1) * 1 := by simp
    _ ≤ 4294967296 ^ (l.length - 1) * (l[l.length - 1]?.getD 0) := Nat.mul_le_mul_left _ this
    _ ≤ _ := Nat.le_add_left _ _

theorem val_zero_nil {l : List Nat} (h : norm l) (h0 : val l = 0) : l = [] := by
  by_cases hl : 0 < l.length
  · have := val_ge h hl
    have : 0 < 4294967296 ^ (l.length - 1) := Nat.pow_pos (by omega)
    omega
  · exact List.length_eq_zero_iff.1 (by omega)

/-- How long a number's digits are, by the number. -/
theorem length_le_of_lt {l : List Nat} (h : norm l) {k : Nat} (hv : val l < 4294967296 ^ k) : l.length ≤ k := by
  by_cases hl : 0 < l.length
  · have h1 := val_ge h hl
    have h2 := Nat.lt_of_le_of_lt h1 hv
    have h3 := (Nat.pow_lt_pow_iff_right (show 1 < 4294967296 by omega)).1 h2
    omega
  · omega

theorem norm_tail {d : Nat} {r : List Nat} (h : norm (d :: r)) : norm r := by
  unfold norm at *
  simp only [sizeL, List.length_cons] at h
  have := sizeL_le r
  split at h
  · split at h <;> omega
  · omega

/-- A number has just one row of digits. -/
theorem val_inj : ∀ {a b : List Nat}, small a → small b → norm a → norm b → val a = val b → a = b
  | [], b, _, _, _, hb, h => (val_zero_nil hb h.symm).symm
  | x :: a, [], _, _, ha, _, h => val_zero_nil ha h
  | x :: a, y :: b, sa, sb, ha, hb, h => by
    have ⟨h1, h2⟩ := small_cons.1 sa
    have ⟨h3, h4⟩ := small_cons.1 sb
    simp only [val] at h
    have e : x = y := by omega
    have := val_inj h2 h4 (norm_tail ha) (norm_tail hb) (by omega)
    rw [e, this]
end Go.Proofs.YtbkmpoeaindnaaaDoor.N

/- What a slice of digits holds in memory; slices.Backward over such a slice, by a contract. -/
namespace Go.Proofs.YtbkmpoeaindnaaaDoor.N
open Go.RowKit Go.Shelf
attribute [local go_sem] Oper.semAt_some

theorem lt_of_cell {W : World} {p : Addr} {v : Value} (h : W.cell? p = some v) : p.block < W.heap.size := by
  by_cases hb : p.block < W.heap.size
  · exact hb
  · exfalso
    have : W.heap[p.block]? = none := Array.getElem?_eq_none (by omega)
    simp [World.cell?, this] at h

/-- The cell of a digit. -/
abbrev dv (d : Nat) : Value := .int .u32 (d : Int)

/-- The slice value sv holds the digits ds. -/
def Digs (W : World) (sv : Value) (ds : List Nat) : Prop :=
  small ds ∧ ds.length ≤ 1000000 ∧ ((sv = .slice none 0 0 ∧ ds = []) ∨ ∃ b off cap, sv = .slice (some ⟨b, off, none⟩) ds.length cap ∧ ds.length ≤ cap ∧
    ∀ j, j < ds.length → W.cell? ⟨b, off + j, none⟩ = some (.int .u32 ((ds[j]?.getD 0 : Nat) : Int)))

theorem Digs.below {W W' : World} {sv : Value} {ds : List Nat} {n : Nat} (h : Digs W sv ds) (hb : Below n W W') (hn : W.heap.size ≤ n) : Digs W' sv ds := by
  obtain ⟨h1, h2, h3⟩ := h
  refine ⟨h1, h2, ?_⟩
  rcases h3 with h3 | ⟨b, off, cap, e, hc, hj⟩
  · exact .inl h3
  · refine .inr ⟨b, off, cap, e, hc, fun j hl => ?_⟩
    have := lt_of_cell (hj j hl)
    exact (hb.cell (p := ⟨b, off + j, none⟩) (by simp at this ⊢; omega)).trans (hj j hl)

theorem Digs.nil (W : World) : Digs W (.slice none 0 0) [] := ⟨small_nil, by simp, .inl ⟨rfl, rfl⟩⟩

/-- The shape of such a value. -/
theorem Digs.shape {W : World} {sv : Value} {ds : List Nat} (h : Digs W sv ds) : ∃ ao cap, sv = .slice ao ds.length cap ∧ ds.length ≤ cap := by
  obtain ⟨_, _, ⟨e, rfl⟩ | ⟨b, off, cap, e, hc, _⟩⟩ := h
  · exact ⟨none, 0, e, Nat.le_refl _⟩
  · exact ⟨_, cap, e, hc⟩

/-- What a round that goes on keeps: what lay below n₀, and the box of the slice that is gone through. -/
def KpB (n₀ Bs : Nat) (W W' : World) : Prop := Below n₀ W W' ∧ W'.cell? ⟨Bs, 0, none⟩ = W.cell? ⟨Bs, 0, none⟩
theorem KpB.refl (n₀ Bs : Nat) (W : World) : KpB n₀ Bs W W := ⟨Below.refl _ _, rfl⟩
theorem KpB_t {n₀ Bs : Nat} {A B C : World} (h : KpB n₀ Bs A B) (k : KpB n₀ Bs B C) : KpB n₀ Bs A C := ⟨h.1.trans k.1, k.2.trans h.2⟩
theorem KpB_b {n₀ Bs : Nat} {w : World} (hn : n₀ ≤ w.heap.size) (hBs : Bs < w.heap.size) (W : World) (l : Nat) (o o' : Obj) (hl : w.heap.size ≤ l) (h : W.heap[l]? = some o) (h1 : o.isCells = false) (h2 : o.isWalk = false) : KpB n₀ Bs W (W.putObj l o') :=
  ⟨belowK_b hn W l o o' hl h h1 h2, (belowK_b (Nat.le_refl _) W l o o' hl h h1 h2).cell (p := ⟨Bs, 0, none⟩) hBs⟩
theorem KpB.of_below {n₀ Bs m : Nat} {W W' : World} (h : Below m W W') (h1 : n₀ ≤ m) (h2 : Bs < m) : KpB n₀ Bs W W' := ⟨h.mono h1, h.cell (p := ⟨Bs, 0, none⟩) h2⟩
/-- A store into another block from n₀ on. -/
theorem KpB.setCell {n₀ Bs : Nat} {W W' : World} (h : KpB n₀ Bs W W') {p : Addr} (hp : n₀ ≤ p.block) (hne : p.block ≠ Bs) (u : Value) : KpB n₀ Bs W (W'.setCell p u) :=
  ⟨h.1.setCell hp u, (World.cell?_of_block (Below.heap_setCell W' p u Bs (fun e => hne e.symm))).trans h.2⟩

/-- An index and the digit there. -/
abbrev It (ds : List Nat) := { x : Nat × Nat // x.1 < ds.length ∧ ds[x.1]?.getD 0 = x.2 }

/-- The first k of what comes, from behind. -/
def seqB (ds : List Nat) (k : Nat) : List (Nat × Nat) := (List.range k).map fun j => (ds.length - 1 - j, ds[ds.length - 1 - j]?.getD 0)
theorem seqB_succ (ds : List Nat) (k : Nat) : seqB ds (k + 1) = seqB ds k ++ [(ds.length - 1 - k, ds[ds.length - 1 - k]?.getD 0)] := by simp [seqB, List.range_succ]
theorem seqB_length (ds : List Nat) (k : Nat) : (seqB ds k).length = k := by simp [seqB]

/-- The block of digits that lay ahead lies below. -/
theorem Digs.blk {W : World} {sv : Value} {ds : List Nat} (h : Digs W sv ds) : ∀ b off cap, sv = .slice (some ⟨b, off, none⟩) ds.length cap → 0 < ds.length → b < W.heap.size := by
  intro b off cap e h0
  obtain ⟨_, _, ⟨e', rfl⟩ | ⟨b', off', cap', e', _, hcs0⟩⟩ := h
  · simp at h0
  · subst e'; cases e; exact lt_of_cell (hcs0 0 h0)
end Go.Proofs.YtbkmpoeaindnaaaDoor.N

/- nat.size and nat.trim: how many digits there are but for the zeros at the end. -/
namespace Go.Proofs.YtbkmpoeaindnaaaDoor.N
open Go.RowKit Go.Shelf
attribute [local go_sem] Oper.semAt_some

theorem seqB_mem {ds : List Nat} {k j : Nat} (h1 : j < ds.length) (h2 : ds.length ≤ j + k) : (j, ds[j]?.getD 0) ∈ seqB ds k := by
  simp only [seqB, List.mem_map, List.mem_range]
  exact ⟨ds.length - 1 - j, by omega, by rw [show ds.length - 1 - (ds.length - 1 - j) = j from by omega]⟩

theorem Digs.trim {W : World} {a : Option Addr} {cap : Nat} {ds : List Nat} (h : Digs W (.slice a ds.length cap) ds) : Digs W (.slice a (sizeL ds) cap) (trimL ds) := by
  obtain ⟨h1, h2, h3⟩ := h
  have hl := sizeL_le ds
  refine ⟨small_trimL h1, by rw [length_trimL]; omega, ?_⟩
  rcases h3 with ⟨e, rfl⟩ | ⟨b, off, cap', e, hc, hj⟩
  · cases e; exact .inl ⟨rfl, rfl⟩
  · cases e
    refine .inr ⟨b, off, cap, by rw [length_trimL], by rw [length_trimL]; omega, fun j hlt => ?_⟩
    rw [length_trimL] at hlt
    rw [getD_trimL]
    exact hj j (by omega)
end Go.Proofs.YtbkmpoeaindnaaaDoor.N

/- (*digits).lay and (*digits).number: digits on their way, in memory of their own. -/
namespace Go.Proofs.YtbkmpoeaindnaaaDoor.N
open Go.RowKit Go.Shelf

theorem Tryd.infoU : (Tryd.prog.info? 98).map (fun i => (i.zero, i.size, i.bytes)) = some (some (.int .u32 0), 1, 4) := by kernel_rfl

/-- The slice value v owns a row of its own (blocks from 'base' on), whose first cells are the digits ds. -/
def Own (W : World) (base : Nat) (v : Value) (ds : List Nat) : Prop :=
  small ds ∧ ds.length ≤ 1000000 ∧ W.ownsRow base 98 1 v ds.length (ds.map dv)

theorem Own.digs {W : World} {base : Nat} {v : Value} {ds : List Nat} (h : Own W base v ds) : Digs W v ds := by
  obtain ⟨h1, h2, _, h3⟩ := h
  refine ⟨h1, h2, ?_⟩
  rcases h3 with ⟨e, hn⟩ | ⟨g, cap, cur, e, hb, hg, hn, hc, hs, ht⟩
  · exact .inl ⟨e, List.length_eq_zero_iff.1 hn⟩
  · refine .inr ⟨g, 0, cap, e, hn, fun j hj => ?_⟩
    have hj2 : (cur.toList.take (ds.length * 1))[j]? = (ds.map dv)[j]? := by rw [ht]
    have hj3 : cur[j]? = some (dv ds[j]) := by
      rw [List.getElem?_take_of_lt (by omega), List.getElem?_map] at hj2
      simpa [hj] using hj2
    simp only [World.cell?, hg, Nat.zero_add]
    simp [hj3, hj]

theorem Own.below {W W' : World} {base n : Nat} {v : Value} {ds : List Nat} (h : Own W base v ds) (hb : Below n W W') (hn : W.heap.size ≤ n) : Own W' base v ds := by
  obtain ⟨h1, h2, h4, h3⟩ := h
  refine ⟨h1, h2, h4, ?_⟩
  rcases h3 with h3 | ⟨g, cap, cur, e, hbb, hg, hn', hc, hs, ht⟩
  · exact .inl h3
  · exact .inr ⟨g, cap, cur, e, hbb, (hb.block g (by have := (Array.getElem?_eq_some_iff.1 hg).1; omega)).trans hg, hn', hc, hs, ht⟩

theorem Own.mono {W : World} {base base' : Nat} {v : Value} {ds : List Nat} (h : Own W base v ds) (hb : base' ≤ base) : Own W base' v ds := by
  obtain ⟨h1, h2, h4, h3⟩ := h
  refine ⟨h1, h2, h4, ?_⟩
  rcases h3 with h3 | ⟨g, cap, cur, e, hbb, hg, hn', hc, hs, ht⟩
  · exact .inl h3
  · exact .inr ⟨g, cap, cur, e, by omega, hg, hn', hc, hs, ht⟩

theorem Own.nil (W : World) (base : Nat) : Own W base (.slice none 0 0) [] := ⟨small_nil, by simp, by simp [World.ownsRow]⟩

theorem Own.take {W : World} {base : Nat} {a : Option Addr} {cap : Nat} {ds : List Nat} (h : Own W base (.slice a ds.length cap) ds) (k : Nat) (hk : k ≤ ds.length) : Own W base (.slice a k cap) (ds.take k) := by
  obtain ⟨h1, h2, h4, h3⟩ := h
  have hl : (ds.take k).length = k := by simp; omega
  refine ⟨small_take _ h1, by omega, by simp, ?_⟩
  rcases h3 with ⟨e, hn⟩ | ⟨g, cap', cur, e, hbb, hg, hn', hc, hs, ht⟩
  · have : k = 0 := by omega
    subst this
    simp only [Value.slice.injEq] at e
    obtain ⟨rfl, _, rfl⟩ := e
    exact .inl ⟨rfl, by simp⟩
  · simp only [Value.slice.injEq] at e
    obtain ⟨rfl, _, rfl⟩ := e
    refine .inr ⟨g, cap, cur, by rw [hl], hbb, hg, by omega, hc, hs, ?_⟩
    rw [hl]
    have := congrArg (List.take k) ht
    rw [List.take_take, show min k (ds.length * 1) = k * 1 from by omega] at this
    rw [this, List.map_take]

theorem small_snoc {ds : List Nat} {d : Nat} (h : small ds) (hd : d < 4294967296) : small (ds ++ [d]) := small_append.2 ⟨h, small_cons.2 ⟨hd, small_nil⟩⟩

/-- The box of d, and what it owns; behind what turns nothing below. -/
theorem boxed_below {W W' : World} {B t n : Nat} {v : Value} (h : Boxed W B t v) (hb : Below n W W') (hn : W.heap.size ≤ n) : Boxed W' B t v := (hb.block B (by have := h.lt; omega)).trans h
end Go.Proofs.YtbkmpoeaindnaaaDoor.N

/- nat.From, nat.Check. -/
namespace Go.Proofs.YtbkmpoeaindnaaaDoor.N
open Go.RowKit Go.Shelf

/-- The slice value v owns the digits of the number N, without zeros at their end. -/
def Num (W : World) (base : Nat) (v : Value) (N : Nat) : Prop := ∃ ds, Own W base v ds ∧ norm ds ∧ val ds = N

theorem Num.below {W W' : World} {base n : Nat} {v : Value} {N : Nat} (h : Num W base v N) (hb : Below n W W') (hn : W.heap.size ≤ n) : Num W' base v N := by
  obtain ⟨ds, h1, h2, h3⟩ := h
  exact ⟨ds, h1.below hb hn, h2, h3⟩
theorem Num.mono {W : World} {base base' : Nat} {v : Value} {N : Nat} (h : Num W base v N) (hb : base' ≤ base) : Num W base' v N := by
  obtain ⟨ds, h1, h2, h3⟩ := h
  exact ⟨ds, h1.mono hb, h2, h3⟩
theorem Own.num {W : World} {base : Nat} {v : Value} {ds : List Nat} {N : Nat} (h : Own W base v (trimL ds)) (hv : val ds = N) : Num W base v N :=
  ⟨_, h, norm_trimL _, by rw [val_trimL, hv]⟩
theorem Num.nil (W : World) (base : Nat) : Num W base (.slice none 0 0) 0 := ⟨[], Own.nil _ _, norm_nil, rfl⟩

theorem val_pair (x : Nat) (hx : x < 18446744073709551616) : val [x % 4294967296, x / 4294967296 % 4294967296] = x := by
  simp only [val]; omega
end Go.Proofs.YtbkmpoeaindnaaaDoor.N

/- math/bits.Len32, LeadingZeros32, Sub32, Add32; cmp.Compare at ints and uint32s. -/
namespace Go.Proofs.YtbkmpoeaindnaaaDoor.N
open Go.RowKit Go.Shelf

theorem ret_two {k k' : IntKind} {a b c d : Int} (h : a = c) (h' : b = d) : Ending.returned (.tuple #[.int k a, .int k' b]) = .returned (.tuple #[.int k c, .int k' d]) := by rw [h, h']
theorem ret_one {k : IntKind} {a b : Int} (h : a = b) : Ending.returned (.int k a) = .returned (.int k b) := by rw [h]

/-- What is borrowed. -/
def brw (x y c : Nat) : Nat := if x < y + c then 1 else 0
theorem brw_le (x y c : Nat) : brw x y c ≤ 1 := by unfold brw; split <;> omega
theorem brw_spec (x y c : Nat) (hx : x < 4294967296) (hy : y < 4294967296) (hc : c ≤ 1) : (x + 8589934592 - y - c) % 4294967296 + y + c = x + 4294967296 * brw x y c := by
  unfold brw; split <;> omega

theorem bit31 (v : Nat) (h : v < 4294967296) : v.testBit 31 = decide (2147483648 ≤ v) := by
  rw [Nat.testBit_eq_decide_div_mod_eq]
  congr 1
  simp only [Nat.reducePow, eq_iff_iff]
  omega
theorem div31 (v : Nat) (h : v < 4294967296) : v / 2147483648 = (v.testBit 31).toNat := by
  rw [bit31 v h]
  by_cases hv : 2147483648 ≤ v
  · simp [hv]; omega
  · simp [hv]; omega

theorem borrow_bits (x y c d : Nat) (hx : x < 4294967296) (hy : y < 4294967296) (hc : c ≤ 1) (hd : d = (x + 8589934592 - y - c) % 4294967296) :
    (((4294967295 ^^^ x) &&& y) ||| ((4294967295 ^^^ (x ^^^ y)) &&& d)) / 2147483648 = brw x y c := by
  have hd2 : d < 4294967296 := by omega
  have hxy : x ^^^ y < 4294967296 := Nat.xor_lt_two_pow (n := 32) hx hy
  have h1 : (4294967295 ^^^ x) &&& y < 4294967296 := Nat.and_lt_two_pow (n := 32) _ hy
  have h2 : (4294967295 ^^^ (x ^^^ y)) &&& d < 4294967296 := Nat.and_lt_two_pow (n := 32) _ hd2
  rw [div31 _ (Nat.or_lt_two_pow (n := 32) h1 h2)]
  simp only [Nat.testBit_or, Nat.testBit_and, Nat.testBit_xor, bit31 x hx, bit31 y hy, bit31 d hd2, show (4294967295 : Nat).testBit 31 = true from by decide]
  unfold brw
  by_cases a : 2147483648 ≤ x <;> by_cases b : 2147483648 ≤ y <;> by_cases e : 2147483648 ≤ d <;> by_cases f : x < y + c <;> simp [a, b, e, f] <;> omega

theorem borrow_int (x y c : Nat) (hx : x < 4294967296) (hy : y < 4294967296) (hc : c ≤ 1) :
    bits BinOp.or IntKind.u32 (bits BinOp.and IntKind.u32 (bits BinOp.xor IntKind.u32 IntKind.u32.max (x : Int)) (y : Int))
      (bits BinOp.and IntKind.u32 (bits BinOp.xor IntKind.u32 IntKind.u32.max (bits BinOp.xor IntKind.u32 (x : Int) (y : Int))) (((x : Int) - (y : Int) - (c : Int)) % 4294967296)) / 2147483648 = (brw x y c : Int) := by
  have hm : IntKind.u32.max = ((4294967295 : Nat) : Int) := rfl
  have hd : ((x : Int) - (y : Int) - (c : Int)) % 4294967296 = (((x + 8589934592 - y - c) % 4294967296 : Nat) : Int) := by omega
  have hd2 : (x + 8589934592 - y - c) % 4294967296 < 4294967296 := Nat.mod_lt _ (by omega)
  have hxy : x ^^^ y < 4294967296 := Nat.xor_lt_two_pow (n := 32) hx hy
  have h0 : (4294967295 ^^^ x) < 4294967296 := Nat.xor_lt_two_pow (n := 32) (by omega) hx
  have h0' : (4294967295 ^^^ (x ^^^ y)) < 4294967296 := Nat.xor_lt_two_pow (n := 32) (by omega) hxy
  have h1 : (4294967295 ^^^ x) &&& y < 4294967296 := Nat.and_lt_two_pow (n := 32) _ hy
  have h2 : (4294967295 ^^^ (x ^^^ y)) &&& ((x + 8589934592 - y - c) % 4294967296) < 4294967296 := Nat.and_lt_two_pow (n := 32) _ hd2
  rw [hm, hd, u32_xor_nat _ _ (by omega) hx, u32_and_nat _ _ h0 hy, u32_xor_nat _ _ hx hy, u32_xor_nat _ _ (by omega) hxy, u32_and_nat _ _ h0' hd2, u32_or_nat _ _ h1 h2]
  rw [show ((2147483648 : Int)) = ((2147483648 : Nat) : Int) from rfl, ← Int.natCast_ediv, borrow_bits x y c _ hx hy hc rfl]

/-- -1, 0 or 1, as x is below y, the same, or above. -/
def ordN (x y : Nat) : Int := if x < y then -1 else if y < x then 1 else 0
theorem ordN_lt {x y : Nat} (h : x < y) : ordN x y = -1 := by simp [ordN, h]
theorem ordN_gt {x y : Nat} (h : y < x) : ordN x y = 1 := by simp [ordN, h, show ¬ x < y from by omega]
theorem ordN_eq (x : Nat) : ordN x x = 0 := by simp [ordN]
end Go.Proofs.YtbkmpoeaindnaaaDoor.N

/- nat.Check, nat.Len. -/
namespace Go.Proofs.YtbkmpoeaindnaaaDoor.N
open Go.RowKit Go.Shelf

def normB (ds : List Nat) : Bool := decide (sizeL ds = ds.length)
theorem normB_true {ds : List Nat} : normB ds = true ↔ norm ds := by simp [normB, norm]

/-- How many bits a number needs. -/
def bl (N : Nat) : Nat := if N = 0 then 0 else N.log2 + 1
theorem bl_zero : bl 0 = 0 := rfl
theorem lt_bl (N : Nat) : N < 2 ^ bl N := by
  unfold bl; split
  · omega
  · exact Nat.lt_log2_self
theorem bl_ge {N : Nat} (h : N ≠ 0) : 2 ^ (bl N - 1) ≤ N := by
  unfold bl; rw [if_neg h]; exact Nat.log2_self_le h
theorem bl_pos {N : Nat} (h : N ≠ 0) : 0 < bl N := by unfold bl; rw [if_neg h]; omega
theorem bl_eq {N k : Nat} (hk : 0 < k) (h1 : 2 ^ (k - 1) ≤ N) (h2 : N < 2 ^ k) : bl N = k := by
  have h0 : N ≠ 0 := by have : 0 < 2 ^ (k - 1) := Nat.pow_pos (by omega); omega
  have a := lt_bl N
  have b := bl_ge h0
  have c := bl_pos h0
  have d : k - 1 < bl N := (Nat.pow_lt_pow_iff_right (show 1 < 2 by omega)).1 (Nat.lt_of_le_of_lt h1 a)
  have e : bl N - 1 < k := (Nat.pow_lt_pow_iff_right (show 1 < 2 by omega)).1 (Nat.lt_of_le_of_lt b h2)
  omega
theorem bl_le {N k : Nat} (h2 : N < 2 ^ k) : bl N ≤ k := by
  by_cases h0 : N = 0
  · subst h0; rw [bl_zero]; omega
  · have b := bl_ge h0
    have e : bl N - 1 < k := (Nat.pow_lt_pow_iff_right (show 1 < 2 by omega)).1 (Nat.lt_of_le_of_lt b h2)
    omega

theorem B_pow (k : Nat) : (4294967296 : Nat) ^ k = 2 ^ (32 * k) := by rw [Nat.pow_mul]

/-- The top digit of a number, and the rest. -/
theorem val_top (ds : List Nat) (h : 0 < ds.length) : val ds = val (ds.take (ds.length - 1)) + 4294967296 ^ (ds.length - 1) * ds[ds.length - 1]?.getD 0 := by
  rw [val_split ds (ds.length - 1)]
  have e : ds.drop (ds.length - 1) = [ds[ds.length - 1]?.getD 0] := by
    rw [List.drop_eq_getElem_cons (by omega)]
    simp [show ds.length - 1 < ds.length from by omega, List.drop_eq_nil_of_le (show ds.length ≤ ds.length - 1 + 1 by omega)]
  rw [e]
  simp [val]

theorem sizeL_zero_val {ds : List Nat} (h : sizeL ds = 0) : val ds = 0 := val_zeros ds fun i => sizeL_zero ds i (by omega)

theorem Digs.trim' {W : World} {a : Option Addr} {cap : Nat} {ds : List Nat} (h : Digs W (.slice a ds.length cap) ds) : Digs W (.slice a (trimL ds).length cap) (trimL ds) := by
  rw [length_trimL]; exact h.trim
/-- A digit's cell. -/
theorem Digs.cell {W : World} {sv : Value} {ds : List Nat} (h : Digs W sv ds) (h0 : 0 < ds.length) : ∃ b off cap, sv = .slice (some ⟨b, off, none⟩) ds.length cap ∧ b < W.heap.size ∧ ∀ j, j < ds.length → W.cell? ⟨b, off + j, none⟩ = some (.int .u32 ((ds[j]?.getD 0 : Nat) : Int)) := by
  obtain ⟨_, _, ⟨_, rfl⟩ | ⟨b, off, cap, e, _, hj⟩⟩ := h
  · simp at h0
  · exact ⟨b, off, cap, e, lt_of_cell (hj 0 h0), hj⟩

theorem val_take_succ (l : List Nat) (k : Nat) : val (l.take (k + 1)) = val (l.take k) + 4294967296 ^ k * l[k]?.getD 0 := by
  by_cases h : k < l.length
  · rw [List.take_succ_eq_append_getElem h, val_append]
    simp [val, h, show min k l.length = k from by omega]
  · rw [List.take_of_length_le (by omega), List.take_of_length_le (by omega)]
    simp [List.getElem?_eq_none (show l.length ≤ k by omega)]
theorem val_snoc (ds : List Nat) (d : Nat) : val (ds ++ [d]) = val ds + 4294967296 ^ ds.length * d := by
  rw [val_append]; simp [val]
end Go.Proofs.YtbkmpoeaindnaaaDoor.N

/- nat.Add. -/
namespace Go.Proofs.YtbkmpoeaindnaaaDoor.N
open Go.RowKit Go.Shelf

/-- One more digit of a sum. -/
theorem add_step {X Y ds : List Nat} {k c : Nat} (hl : ds.length = k) (hv : val ds + 4294967296 ^ k * c = val (X.take k) + val (Y.take k)) :
    val (ds ++ [(c + X[k]?.getD 0 + Y[k]?.getD 0) % 4294967296]) + 4294967296 ^ (k + 1) * ((c + X[k]?.getD 0 + Y[k]?.getD 0) / 4294967296) = val (X.take (k + 1)) + val (Y.take (k + 1)) := by
  rw [val_snoc, val_take_succ, val_take_succ, hl, Nat.pow_succ, Nat.add_assoc, Nat.mul_assoc, ← Nat.mul_add, Nat.mod_add_div]
  rw [Nat.mul_add, Nat.mul_add]
  omega
end Go.Proofs.YtbkmpoeaindnaaaDoor.N

/- nat.Cmp. -/
namespace Go.Proofs.YtbkmpoeaindnaaaDoor.N
open Go.RowKit Go.Shelf
attribute [local go_sem] Oper.semAt_some

theorem list_ext_getD {X Y : List Nat} (h : X.length = Y.length) (he : ∀ i : Nat, i < X.length → X[i]?.getD 0 = Y[i]?.getD 0) : X = Y := by
  apply List.ext_getElem h
  intro i h1 h2
  have := he i h1
  simpa [h1, h2] using this

theorem val_lt_at {X Y : List Nat} {j : Nat} (hx : small X) (h : X.length = Y.length) (hj : j < X.length) (he : ∀ i : Nat, j < i → X[i]?.getD 0 = Y[i]?.getD 0) (hlt : X[j]?.getD 0 < Y[j]?.getD 0) : val X < val Y := by
  have hd : X.drop (j + 1) = Y.drop (j + 1) := by
    apply list_ext_getD (by simp [h])
    intro i _
    rw [getD_drop, getD_drop]
    exact he _ (by omega)
  rw [val_split X (j + 1), val_split Y (j + 1), hd, val_take_succ, val_take_succ]
  have l1 : (X.take (j + 1)).length = j + 1 := by simp; omega
  have l2 : (Y.take (j + 1)).length = j + 1 := by simp; omega
  have hlow : val (X.take j) < 4294967296 ^ j := by
    have := val_lt (small_take j hx)
    rwa [List.length_take, show min j X.length = j from by omega] at this
  rw [l1, l2]
  have hm : 4294967296 ^ j * (X[j]?.getD 0 + 1) ≤ 4294967296 ^ j * Y[j]?.getD 0 := Nat.mul_le_mul_left _ hlt
  rw [Nat.mul_add, Nat.mul_one] at hm
  omega

theorem val_lt_len {X Y : List Nat} (hx : small X) (hy : norm Y) (h : X.length < Y.length) : val X < val Y := by
  have h1 := val_lt hx
  have h2 := val_ge hy (by omega)
  have h3 : 4294967296 ^ X.length ≤ 4294967296 ^ (Y.length - 1) := Nat.pow_le_pow_right (by omega) (by omega)
  omega

/-- No panic is let out. -/
def noPanic (Q : Exit → Act → World → Prop) : Exit → Act → World → Prop
  | .panic _, _, _ => False
  | e, a, w => Q e a w
theorem noPanic_le {Q : Exit → Act → World → Prop} : ∀ e a w, noPanic Q e a w → Q e a w := by
  intro e a w h
  cases e <;> first | exact h | exact h.elim
end Go.Proofs.YtbkmpoeaindnaaaDoor.N

/- nat.Sub. -/
namespace Go.Proofs.YtbkmpoeaindnaaaDoor.N
open Go.RowKit Go.Shelf

/-- One more digit of a difference. -/
theorem sub_step {X Y ds : List Nat} {k c x y : Nat} (hX : X[k]?.getD 0 = x) (hY : Y[k]?.getD 0 = y) (hx : x < 4294967296) (hy : y < 4294967296) (hc : c ≤ 1) (hl : ds.length = k) (hv : val ds + val (Y.take k) = val (X.take k) + 4294967296 ^ k * c) :
    val (ds ++ [(x + 8589934592 - y - c) % 4294967296]) + val (Y.take (k + 1)) = val (X.take (k + 1)) + 4294967296 ^ (k + 1) * brw x y c := by
  have hb := brw_spec x y c hx hy hc
  rw [val_snoc, val_take_succ, val_take_succ, hl, hX, hY, Nat.pow_succ, Nat.mul_assoc]
  generalize (x + 8589934592 - y - c) % 4294967296 = d at *
  have h2 : 4294967296 ^ k * (d + y + c) = 4294967296 ^ k * (x + 4294967296 * brw x y c) := by rw [hb]
  rw [Nat.mul_add, Nat.mul_add, Nat.mul_add] at h2
  omega

theorem sub_end {X Y ds : List Nat} {c : Nat} (hsd : small ds) (hl : ds.length = X.length) (hyl : Y.length ≤ X.length) (hle : val Y ≤ val X) (hc : c ≤ 1) (hv : val ds + val (Y.take X.length) = val (X.take X.length) + 4294967296 ^ X.length * c) : val ds = val X - val Y := by
  have h1 := val_lt hsd
  rw [hl] at h1
  rw [List.take_length, List.take_of_length_le hyl] at hv
  rcases Nat.le_one_iff_eq_zero_or_eq_one.1 hc with rfl | rfl
  · omega
  · omega

theorem Own.app_mod {W : World} {n₀ : Nat} {v : Value} {ds : List Nat} {d : Nat} (h : Own W n₀ v (ds ++ [d % 4294967296])) (hd : d < 4294967296) : Own W n₀ v (ds ++ [d]) := by rwa [Nat.mod_eq_of_lt hd] at h
end Go.Proofs.YtbkmpoeaindnaaaDoor.N

/- (*digits).addTimes and nat.Mul. -/
namespace Go.Proofs.YtbkmpoeaindnaaaDoor.N
open Go.RowKit Go.Shelf

theorem Own.cellAt {W : World} {n₀ g n cap : Nat} {ds : List Nat} (h : Own W n₀ (.slice (some ⟨g, 0, none⟩) n cap) ds) (j : Nat) (hj : j < ds.length) : W.cell? ⟨g, j, none⟩ = some (.int .u32 ((ds[j]?.getD 0 : Nat) : Int)) := by
  obtain ⟨a, c, e, _⟩ := h.digs.shape
  obtain ⟨_, rfl, _⟩ : _ ∧ n = ds.length ∧ _ := by simpa using e
  have := h.2.2.cellAt j (by omega)
  rw [this]; simp [hj]
theorem Own.frozenAt {W : World} {n₀ g n cap : Nat} {ds : List Nat} (h : Own W n₀ (.slice (some ⟨g, 0, none⟩) n cap) ds) (j : Nat) : W.frozen? ⟨g, j, none⟩ = false := by
  obtain ⟨a, c, e, _⟩ := h.digs.shape
  obtain ⟨_, rfl, _⟩ : _ ∧ n = ds.length ∧ _ := by simpa using e
  exact h.2.2.frozenAt j
theorem Own.base_le {W : World} {n₀ g n cap : Nat} {ds : List Nat} (h : Own W n₀ (.slice (some ⟨g, 0, none⟩) n cap) ds) : n₀ ≤ g := by
  obtain ⟨_, _, _, ⟨e, _⟩ | ⟨g', _, _, e, hb, _⟩⟩ := h
  · simp at e
  · simp at e; omega
theorem Own.len_le {W : World} {n₀ g n cap : Nat} {ds : List Nat} (h : Own W n₀ (.slice (some ⟨g, 0, none⟩) n cap) ds) : n = ds.length ∧ ds.length ≤ cap := by
  obtain ⟨a, c, e, hc⟩ := h.digs.shape
  obtain ⟨_, rfl, rfl⟩ : _ ∧ n = ds.length ∧ cap = c := by simpa using e
  exact ⟨rfl, hc⟩
/-- A digit is set. -/
theorem Own.store {W : World} {n₀ g n cap : Nat} {ds : List Nat} (h : Own W n₀ (.slice (some ⟨g, 0, none⟩) n cap) ds) (j d : Nat) (hd : d < 4294967296) :
    Own (W.setCell ⟨g, j, none⟩ (.int .u32 (d : Int))) n₀ (.slice (some ⟨g, 0, none⟩) n cap) (ds.set j d) := by
  obtain ⟨rfl, _⟩ := h.len_le
  refine ⟨small_set h.1 _ _ hd, by rw [List.length_set]; exact h.2.1, ?_⟩
  have := (h.2.2.stored j (dv d)).1
  rw [List.length_set, List.map_set]
  exact this
theorem boxed_setOther {W : World} {B t g j : Nat} {v u : Value} (hB : Boxed W B t v) (hne : B ≠ g) : Boxed (W.setCell ⟨g, j, none⟩ u) B t v := (Below.heap_setCell _ _ _ _ hne).trans hB

theorem set_mid (P L M Q : List Nat) (m d : Nat) : (P ++ (L ++ m :: M) ++ Q).set (P.length + L.length) d = P ++ ((L ++ [d]) ++ M) ++ Q := by
  rw [List.append_assoc, List.append_assoc, List.set_append_right _ _ (by omega), List.set_append_right _ _ (by omega)]
  simp
theorem get_mid (P L M Q : List Nat) (m : Nat) : (P ++ (L ++ m :: M) ++ Q)[P.length + L.length]?.getD 0 = m := by
  rw [List.append_assoc, List.append_assoc, List.getElem?_append_right (by omega), List.getElem?_append_right (by omega)]
  simp

theorem mulStep {L M N : List Nat} {k c x y m : Nat} (hl : L.length = k) (hm : M[k]?.getD 0 = m) (hy : N[k]?.getD 0 = y) (hv : val L + 4294967296 ^ k * c = val (M.take k) + x * val (N.take k)) :
    val (L ++ [(c + (x * y + m)) % 4294967296]) + 4294967296 ^ (k + 1) * ((c + (x * y + m)) / 4294967296) = val (M.take (k + 1)) + x * val (N.take (k + 1)) := by
  rw [val_snoc, val_take_succ, val_take_succ, hl, hm, hy, Nat.pow_succ, Nat.add_assoc, Nat.mul_assoc, ← Nat.mul_add, Nat.mod_add_div]
  rw [Nat.mul_add, Nat.mul_add, Nat.mul_add, ← Nat.mul_assoc x, Nat.mul_comm x (4294967296 ^ k), Nat.mul_assoc]
  omega

theorem mul_bound (x y : Nat) (hx : x < 4294967296) (hy : y < 4294967296) : x * y ≤ 18446744065119617025 := by
  have := Nat.mul_le_mul (show x ≤ 4294967295 by omega) (show y ≤ 4294967295 by omega)
  omega

theorem mul_int (x y : Nat) (hx : x < 4294967296) (hy : y < 4294967296) : (x : Int) * (y : Int) ≤ 18446744065119617025 ∧ (0 : Int) ≤ (x : Int) * (y : Int) := by
  have := mul_bound x y hx hy
  rw [← Int.natCast_mul]
  omega
theorem sum_int (c x y m s : Nat) (h : s = c + (x * y + m)) : (c : Int) + ((x : Int) * (y : Int) + (m : Int)) = (s : Int) := by
  rw [h]; simp
theorem int_mod (s : Nat) : (s : Int) % 4294967296 = ((s % 4294967296 : Nat) : Int) := by omega
theorem int_div (s : Nat) : (s : Int) / 4294967296 = ((s / 4294967296 : Nat) : Int) := by omega

theorem three_parts (ds : List Nat) (k n : Nat) : ds = ds.take k ++ (ds.drop k).take n ++ ds.drop (k + n) := by
  rw [List.append_assoc, ← List.drop_drop, List.take_append_drop, List.take_append_drop]

theorem mul_round {X Y ds M' : List Nat} {k x : Nat} (hkl : k + Y.length + 1 ≤ ds.length) (hx : X[k]?.getD 0 = x) (hv : val ds = val (X.take k) * val Y) (hz : ∀ j : Nat, k + Y.length ≤ j → ds[j]?.getD 0 = 0)
    (hl : M'.length = ((ds.drop k).take (Y.length + 1)).length) (hM : ((ds.drop k).take (Y.length + 1))[Y.length]?.getD 0 = 0 → val M' = val ((ds.drop k).take (Y.length + 1)) + x * val Y) :
    (ds.take k ++ M' ++ ds.drop (k + (Y.length + 1))).length = ds.length ∧ val (ds.take k ++ M' ++ ds.drop (k + (Y.length + 1))) = val (X.take (k + 1)) * val Y ∧ ∀ j : Nat, k + 1 + Y.length ≤ j → (ds.take k ++ M' ++ ds.drop (k + (Y.length + 1)))[j]?.getD 0 = 0 := by
  have hM2 := hM (by rw [getD_take, if_pos (by omega), getD_drop]; exact hz _ (Nat.le_refl _))
  have hlM : M'.length = Y.length + 1 := by rw [hl]; simp; omega
  have hlt : (ds.take k).length = k := by simp; omega
  refine ⟨by simp; omega, ?_, ?_⟩
  · have h3 := three_parts ds k (Y.length + 1)
    have h4 : val ds = val (ds.take k) + 4294967296 ^ k * (val ((ds.drop k).take (Y.length + 1)) + 4294967296 ^ (Y.length + 1) * val (ds.drop (k + (Y.length + 1)))) := by
      conv => lhs; rw [h3, List.append_assoc, val_append, val_append, hlt]
      simp [show min (Y.length + 1) (ds.length - k) = Y.length + 1 from by omega]
    rw [List.append_assoc, val_append, val_append, hlt, hlM, hM2, val_take_succ X, hx, Nat.add_mul, ← hv, h4]
    rw [Nat.mul_add, Nat.mul_add, Nat.mul_add, Nat.mul_assoc (4294967296 ^ k) x]
    omega
  · intro j hj
    rw [List.getElem?_append_right (by simp; omega), getD_drop]
    rw [show k + (Y.length + 1) + (j - (List.take k ds ++ M').length) = j by simp; omega]
    exact hz j (by omega)
end Go.Proofs.YtbkmpoeaindnaaaDoor.N

/- nat.up and nat.Shl. -/
namespace Go.Proofs.YtbkmpoeaindnaaaDoor.N
open Go.RowKit Go.Shelf

/-- 'make([]T, n, m)', n and m variables. -/
theorem wpList_make_lc {P : Program} (w : World) {ops : Array Oper} {rest : List Oper} {o : Oper} {a : Act} {Q : Exit → Act → World → Prop}
    (hg : o.guard = none) (l c : Operand) (t : TypeId) (hop : o.op = Op.makeSlice t l c)
    (e : TypeId) (i : TypeInfo) (z : Value) (h1 : P.underlying t = some (.slice e)) (h2 : P.info? e = some i) (h3 : i.zero = some z) (h4 : i.size = 1)
    (kl kc : IntKind) (L C : Int) (n m : Nat) (hl : a.eval l = .int kl L) (hc : a.eval c = .int kc C) (hL : L = (n : Int)) (hC : C = (m : Int)) (hnm : n ≤ m) (b2 : i.bytes * m ≤ 281474976710656) (b3 : m ≤ 9223372036854775807)
    (hK : wpList P ops Q rest (a.put o.dst (.slice (some ⟨w.heap.size, 0, none⟩) n m)) (w.alloc (.cells (madeCells z.cells m) e))) :
    wpList P ops Q (o :: rest) a w := by
  refine wpList_plain hg fun K hK' => ?_
  have hrun := run_make (P := P) w t e i z h1 h2 h3 kl kc (n : Int) (m : Int) (by omega) (by omega) (by rw [← Int.natCast_mul]; omega) (by omega)
  rw [h4] at hrun
  subst hL
  subst hC
  unfold Oper.wp
  simp [execOp, hop, hl, hc, hrun, Result.andThen]
  exact hK' _ _ (by simpa using hK)

theorem or_add (p x c : Nat) (hp : p < 32) (hx : x < 4294967296) (hc : c < 2 ^ p) : bits BinOp.or IntKind.u64 (IntKind.u64.wrap ((x : Int) * 2 ^ p)) (c : Int) = ((x * 2 ^ p + c : Nat) : Int) := by
  have h1 : (2 : Nat) ^ p ≤ 2 ^ 32 := Nat.pow_le_pow_right (by omega) (by omega)
  have h2 : x * 2 ^ p ≤ 4294967295 * 2 ^ p := Nat.mul_le_mul_right _ (by omega)
  have h4 : x * 2 ^ p < 18446744073709551616 := by omega
  have h3 : IntKind.u64.wrap ((x : Int) * 2 ^ p) = ((x * 2 ^ p : Nat) : Int) := by
    have e : ((x : Int) * 2 ^ p) = ((x * 2 ^ p : Nat) : Int) := by simp
    rw [e, IntKind.wrap_u64]; omega
  rw [h3, u64_or_nat _ _ h4 (by omega), Nat.mul_comm, Nat.two_pow_add_eq_or_of_lt hc]

theorem up_step {X ds : List Nat} {k j c x : Nat} (hl : ds.length = k / 32 + j) (hx : X[j]?.getD 0 = x) (hv : val ds + 4294967296 ^ (k / 32 + j) * c = val (X.take j) * 2 ^ k) :
    val (ds ++ [(x * 2 ^ (k % 32) + c) % 4294967296]) + 4294967296 ^ (k / 32 + (j + 1)) * ((x * 2 ^ (k % 32) + c) / 4294967296) = val (X.take (j + 1)) * 2 ^ k := by
  have hk : (2 : Nat) ^ k = 4294967296 ^ (k / 32) * 2 ^ (k % 32) := by
    rw [B_pow, ← Nat.pow_add]; congr 1; omega
  rw [val_snoc, val_take_succ, hl, hx, ← Nat.add_assoc, Nat.pow_succ, Nat.add_assoc, Nat.mul_assoc, ← Nat.mul_add, Nat.mod_add_div, Nat.mul_add, Nat.add_mul, ← hv]
  have e : 4294967296 ^ (k / 32 + j) * (x * 2 ^ (k % 32)) = 4294967296 ^ j * x * 2 ^ k := by
    rw [hk, Nat.pow_add]
    simp only [Nat.mul_comm, Nat.mul_left_comm, Nat.mul_assoc]
  omega
theorem up_carry {p x c : Nat} (hx : x < 4294967296) (hc : c < 2 ^ p) : (x * 2 ^ p + c) / 4294967296 < 2 ^ p := by
  rw [Nat.div_lt_iff_lt_mul (by omega)]
  have : x * 2 ^ p ≤ 4294967295 * 2 ^ p := Nat.mul_le_mul_right _ (by omega)
  omega
end Go.Proofs.YtbkmpoeaindnaaaDoor.N

/- Plain mathematics of nat.Shr: digits shifted to the right, from behind. -/
namespace Go.Proofs.YtbkmpoeaindnaaaDoor.N


/-- The next pair of digits, and the digit that a pair gives. -/
def pairN (q d : Nat) : Nat := q * 4294967296 % 18446744073709551616 + d
def digN (p q : Nat) : Nat := q / 2 ^ p % 4294967296
def two (a b : Nat) : Nat := a * 4294967296 + b
theorem digN_lt (p q : Nat) : digN p q < 4294967296 := Nat.mod_lt _ (by omega)
theorem pairN_lt (q d : Nat) (h : d < 4294967296) : pairN q d < 18446744073709551616 := by unfold pairN; omega
theorem pairN_zero (d : Nat) : pairN 0 d = two 0 d := by unfold pairN two; omega
theorem pairN_two (a b d : Nat) (hb : b < 4294967296) : pairN (two a b) d = two b d := by unfold pairN two; omega

/-- One step of the loop: the pair of digits, and what is set. -/
def shrS (p : Nat) (s : Nat × List Nat) (x : Nat × Nat) : Nat × List Nat := (pairN s.1 x.2, s.2.set x.1 (digN p (pairN s.1 x.2)))
def shrF (p L : Nat) (l : List (Nat × Nat)) : Nat × List Nat := l.foldl (shrS p) (0, List.replicate L 0)
theorem shrF_snoc (p L : Nat) (l : List (Nat × Nat)) (x : Nat × Nat) : shrF p L (l ++ [x]) = shrS p (shrF p L l) x := by simp [shrF]

theorem shrF_length (p L : Nat) (l : List (Nat × Nat)) : (shrF p L l).2.length = L := by
  have : ∀ (l : List (Nat × Nat)) (s : Nat × List Nat), (l.foldl (shrS p) s).2.length = s.2.length := by
    intro l
    induction l with
    | nil => intro s; rfl
    | cons x r ih => intro s; rw [List.foldl_cons, ih]; simp [shrS]
  rw [shrF, this]; simp

theorem shrF_lt (p L : Nat) (l : List (Nat × Nat)) (h : ∀ x, x ∈ l → x.2 < 4294967296) : (shrF p L l).1 < 18446744073709551616 := by
  have key : ∀ (l : List (Nat × Nat)) (s : Nat × List Nat), (∀ x, x ∈ l → x.2 < 4294967296) → s.1 < 18446744073709551616 → (l.foldl (shrS p) s).1 < 18446744073709551616 := by
    intro l
    induction l with
    | nil => intro s _ hs; exact hs
    | cons x r ih =>
      intro s hx hs
      rw [List.foldl_cons]
      exact ih _ (fun y hy => hx y (List.mem_cons_of_mem _ hy)) (pairN_lt _ _ (hx x (List.mem_cons_self)))
  exact key l _ h (by simp)

/-- What comes of going through all digits from behind. -/
theorem shrF_seq (p : Nat) (Z : List Nat) (hZ : small Z) : ∀ j, j ≤ Z.length → (j ≠ 0 → (shrF p Z.length (seqB Z j)).1 = two (Z[Z.length - j + 1]?.getD 0) (Z[Z.length - j]?.getD 0)) ∧ (j = 0 → (shrF p Z.length (seqB Z j)).1 = 0) ∧
    ∀ i : Nat, Z.length - j ≤ i → i < Z.length → (shrF p Z.length (seqB Z j)).2[i]?.getD 0 = digN p (two (Z[i + 1]?.getD 0) (Z[i]?.getD 0)) := by
  intro j
  induction j with
  | zero => intro _; exact ⟨fun h => absurd rfl h, fun _ => by simp [seqB, shrF], fun i h1 h2 => by omega⟩
  | succ j ih =>
    intro hj
    obtain ⟨h1, h0, h2⟩ := ih (by omega)
    have hlen := shrF_length p Z.length (seqB Z j)
    rw [seqB_succ, shrF_snoc]
    have hz : Z.length - 1 - j = Z.length - (j + 1) := by omega
    rw [hz]
    have hpair : ∀ d, pairN (shrF p Z.length (seqB Z j)).1 d = two (Z[Z.length - (j + 1) + 1]?.getD 0) d := by
      intro d
      by_cases h : j = 0
      · rw [h0 h, h, pairN_zero, List.getElem?_eq_none (show Z.length ≤ Z.length - (0 + 1) + 1 by omega), Option.getD_none]
      · rw [h1 h, show Z.length - (j + 1) + 1 = Z.length - j by omega, pairN_two _ _ _ (small_getD hZ (Z.length - j))]
    refine ⟨fun _ => ?_, fun h => by omega, ?_⟩
    · simp only [shrS, hpair]
    · intro i hi1 hi2
      simp only [shrS, hpair]
      by_cases hi : i = Z.length - (j + 1)
      · subst hi
        rw [List.getElem?_set_self (by omega), Option.getD_some]
      · rw [List.getElem?_set_ne (by omega)]
        exact h2 i (by omega) hi2

/-- The digits of a number divided by 2 to the power of p. -/
def shrL (p : Nat) : List Nat → List Nat
  | [] => []
  | a :: r => digN p (two (r[0]?.getD 0) a) :: shrL p r
theorem shrL_length (p : Nat) (Z : List Nat) : (shrL p Z).length = Z.length := by
  induction Z with
  | nil => rfl
  | cons a r ih => simp [shrL, ih]
theorem shrL_get (p : Nat) (Z : List Nat) : ∀ i : Nat, i < Z.length → (shrL p Z)[i]?.getD 0 = digN p (two (Z[i + 1]?.getD 0) (Z[i]?.getD 0)) := by
  induction Z with
  | nil => intro i h; simp at h
  | cons a r ih =>
    intro i h
    cases i with
    | zero => rw [shrL, List.getElem?_cons_zero, List.getElem?_cons_succ, List.getElem?_cons_zero, Option.getD_some, Option.getD_some]
    | succ i =>
      rw [shrL, List.getElem?_cons_succ, List.getElem?_cons_succ, List.getElem?_cons_succ]
      exact ih i (by rw [List.length_cons] at h; omega)

theorem head_mod (r : List Nat) (hr : small r) : r[0]?.getD 0 = val r % 4294967296 := by
  cases r with
  | nil => simp [val]
  | cons b s =>
    have := (small_cons.1 hr).1
    simp only [val, List.getElem?_cons_zero, Option.getD_some]
    omega

theorem shr_arith (a v p : Nat) (hp : p < 32) (ha : a < 4294967296) : (v % 4294967296 * 4294967296 + a) / 2 ^ p % 4294967296 + 4294967296 * (v / 2 ^ p) = (a + 4294967296 * v) / 2 ^ p := by
  obtain ⟨T, hT⟩ : ∃ T, 4294967296 = 2 ^ p * T := ⟨2 ^ (32 - p), by rw [← Nat.pow_add, show p + (32 - p) = 32 from by omega]⟩
  have hq : 0 < 2 ^ p := Nat.pow_pos (by omega)
  generalize 2 ^ p = q at *
  have hTp : 0 < T := by
    rcases Nat.eq_zero_or_pos T with h | h
    · rw [h] at hT; omega
    · exact h
  have e1 : (a + 4294967296 * v) / q = a / q + T * v := by
    rw [hT, Nat.mul_assoc, Nat.add_mul_div_left _ _ hq]
  have e2 : (v % 4294967296 * 4294967296 + a) / q = a / q + T * (v % 4294967296) := by
    rw [Nat.add_comm, Nat.mul_comm (v % 4294967296) 4294967296]
    generalize v % 4294967296 = u
    rw [hT, Nat.mul_assoc, Nat.add_mul_div_left _ _ hq]
  have e3 : a / q < T := by
    rw [Nat.div_lt_iff_lt_mul hq, Nat.mul_comm, ← hT]; exact ha
  have e4 : v = q * (v / q) + v % q := (Nat.div_add_mod v q).symm
  have e5 : v % 4294967296 % q = v % q := by rw [hT]; exact Nat.mod_mul_right_mod v q T
  have e6 : T * (v % 4294967296) % 4294967296 = T * (v % q) := by
    conv => lhs; rhs; rw [hT, Nat.mul_comm q T]
    rw [Nat.mul_mod_mul_left, e5]
  have e7 : v % q < q := Nat.mod_lt _ hq
  have e8 : a / q + T * (v % q) < 4294967296 := by
    have : T * (v % q + 1) ≤ T * q := Nat.mul_le_mul_left _ e7
    rw [Nat.mul_add, Nat.mul_one, Nat.mul_comm T q, ← hT] at this
    omega
  have e9 : T * v = 4294967296 * (v / q) + T * (v % q) := by
    conv => lhs; rw [e4]
    rw [Nat.mul_add, ← Nat.mul_assoc, Nat.mul_comm T q, ← hT]
  have e10 : (a / q + T * (v % 4294967296)) % 4294967296 = a / q + T * (v % q) := by
    rw [Nat.add_mod, e6, Nat.mod_eq_of_lt (show a / q < 4294967296 by
      have : T ≤ 4294967296 := by
        have : T * 1 ≤ T * q := Nat.mul_le_mul_left _ hq
        rw [Nat.mul_comm T q, ← hT] at this; omega
      omega), Nat.mod_eq_of_lt e8]
  rw [e1, e2, e10, e9]
  omega

theorem val_shrL (p : Nat) (hp : p < 32) (Z : List Nat) (hZ : small Z) : val (shrL p Z) = val Z / 2 ^ p := by
  induction Z with
  | nil => simp [shrL, val]
  | cons a r ih =>
    have ⟨h1, h2⟩ := small_cons.1 hZ
    simp only [shrL, val, ih h2]
    rw [head_mod r h2]
    unfold digN two
    exact shr_arith a (val r) p hp h1

theorem small_shrL (p : Nat) (Z : List Nat) : small (shrL p Z) := by
  induction Z with
  | nil => exact small_nil
  | cons a r ih => exact small_cons.2 ⟨digN_lt _ _, ih⟩

/-- All digits gone through: the digits of the shifted number, and the last pair. -/
theorem shrF_all (p : Nat) (Z : List Nat) (hZ : small Z) (h0 : 0 < Z.length) : (shrF p Z.length (seqB Z Z.length)).2 = shrL p Z ∧ (shrF p Z.length (seqB Z Z.length)).1 = two (Z[1]?.getD 0) (Z[0]?.getD 0) := by
  obtain ⟨h1, _, h2⟩ := shrF_seq p Z hZ Z.length (Nat.le_refl _)
  have h1 := h1 (by omega)
  rw [Nat.sub_self] at h1 h2
  rw [Nat.zero_add] at h1
  refine ⟨?_, h1⟩
  apply list_ext_getD (by rw [shrF_length, shrL_length])
  intro i hi
  rw [shrF_length] at hi
  rw [h2 i (by omega) hi, shrL_get p Z i hi]

theorem pow_split (k : Nat) : (2 : Nat) ^ k = 4294967296 ^ (k / 32) * 2 ^ (k % 32) := by
  rw [B_pow, ← Nat.pow_add]; congr 1; omega

theorem shr_val (X : List Nat) (k : Nat) (hX : small X) (hk : k / 32 ≤ X.length) : val (shrL (k % 32) (X.drop (k / 32))) = val X / 2 ^ k := by
  rw [val_shrL _ (Nat.mod_lt _ (by omega)) _ (small_drop _ hX), pow_split k, ← Nat.div_div_eq_div_mul]
  congr 1
  have h1 := val_split X (k / 32)
  have hl : (X.take (k / 32)).length = k / 32 := by simp; omega
  have h2 := val_lt (small_take (k / 32) hX)
  rw [hl] at h1 h2
  rw [h1, Nat.add_mul_div_left _ _ (Nat.pow_pos (by omega)), Nat.div_eq_of_lt h2, Nat.zero_add]

theorem shr_exact (X : List Nat) (k : Nat) (hX : small X) (hk : k / 32 < X.length) : (val X % 2 ^ k = 0) ↔ ((X.drop (k / 32))[0]?.getD 0 % 2 ^ (k % 32) = 0 ∧ sizeL (X.take (k / 32)) = 0) := by
  have h1 := val_split X (k / 32)
  have hl : (X.take (k / 32)).length = k / 32 := by simp; omega
  have h2 := val_lt (small_take (k / 32) hX)
  rw [hl] at h1 h2
  have hz : sizeL (X.take (k / 32)) = 0 ↔ val (X.take (k / 32)) = 0 := by
    constructor
    · exact sizeL_zero_val
    · intro h
      have := val_zero_nil (norm_trimL _) (by rw [val_trimL]; exact h)
      have := congrArg List.length this
      rwa [length_trimL] at this
  rw [hz, head_mod _ (small_drop _ hX), h1, pow_split k, Nat.mod_mul]
  generalize val (X.take (k / 32)) = lo at *
  generalize val (X.drop (k / 32)) = hi at *
  have hP : 0 < 4294967296 ^ (k / 32) := Nat.pow_pos (by omega)
  have hq : hi % 4294967296 % 2 ^ (k % 32) = hi % 2 ^ (k % 32) := Nat.mod_mod_of_dvd _ ⟨2 ^ (32 - k % 32), by rw [← Nat.pow_add, show k % 32 + (32 - k % 32) = 32 from by omega]⟩
  rw [hq, Nat.add_mul_mod_self_left, Nat.mod_eq_of_lt h2, Nat.add_mul_div_left _ _ hP, Nat.div_eq_of_lt h2, Nat.zero_add]
  constructor
  · intro h
    have h3 : lo = 0 := by omega
    subst h3
    have h4 : 4294967296 ^ (k / 32) * (hi % 2 ^ (k % 32)) = 0 := by omega
    rcases Nat.mul_eq_zero.1 h4 with h5 | h5
    · omega
    · exact ⟨h5, rfl⟩
  · rintro ⟨h3, rfl⟩
    rw [h3]; simp
end Go.Proofs.YtbkmpoeaindnaaaDoor.N
