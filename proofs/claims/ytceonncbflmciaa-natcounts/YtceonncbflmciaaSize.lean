/- nat.size and nat.trim: how many digits there are but for the zeros at the end. -/
import Derived.Test.YtceonncbflmciaaIter
namespace Go.Proofs.Ytceonncbflmciaa
open Go.RowKit Go.Shelf
attribute [local go_sem] Oper.semAt_some

theorem seqB_mem {ds : List Nat} {k j : Nat} (h1 : j < ds.length) (h2 : ds.length ≤ j + k) : (j, ds[j]?.getD 0) ∈ seqB ds k := by
  simp only [seqB, List.mem_map, List.mem_range]
  exact ⟨ds.length - 1 - j, by omega, by rw [show ds.length - 1 - (ds.length - 1 - j) = j from by omega]⟩

set_option maxRecDepth 100000 in
set_option maxHeartbeats 2000000 in
theorem size_in (n : Nat) (hn : 3 ≤ n) (sv : Value) (ds : List Nat) (w : World) (hI : Digs w sv ds) :
    CallsIn Fence.wide n Try.prog 35 #[sv] w fun e W' => e = .returned (.int .i64 (sizeL ds : Nat)) ∧ Below w.heap.size w W' := by
  have h1 : 1 ≤ n := by omega
  have hro : Fence.wide.round = none := rfl
  obtain ⟨a, cap, rfl, hcap⟩ := hI.shape
  refine callsIn_of_wp_marks Try.func35 rfl trivial ?_ hro
  simp only [Try.ntmps35, List.size_toArray, List.length_cons, List.length_nil, Nat.reduceAdd, Nat.reduceSub, Array.replicate_succ, Array.replicate_zero, List.push_toArray, List.append_toArray, List.nil_append, List.cons_append]
  gi_wp2_with (refine ⟨trivial, ?_⟩; gi_at_call 34; refine (back_in Fence.wide (n - 1) trivial hro _ _ _ _).mono ?_; rintro e w' ⟨rfl, rfl⟩)
  have bR := Boxed.new w 3 (.int .i64 0)
  have bN := Boxed.new (w.alloc (.cells #[.int .i64 0] 3)) 23 (.slice a ds.length cap)
  rw [World.size_alloc] at bN
  have hB0 : Below w.heap.size w ((w.alloc (.cells #[.int .i64 0] 3)).alloc (.cells #[.slice a ds.length cap] 23)) := ((Below.refl _ w).alloc (Nat.le_refl _) _).alloc (by simp) _
  refine wpIn_rangeFunc_ownG hro h1 (gf := 45) (lb := #[.pointer (some ⟨w.heap.size + 1, 0, none⟩)]) rfl trivial (enters_of Try.func45 (by kernel_rfl) rfl)
    (back_stops Fence.wide (n - 1) trivial hro (by omega) (w.heap.size + 1) w.heap.size _ ds _ hI.blk bN.cell (hI.below hB0 (Nat.le_refl _))) KpB_t (KpB_b (by simp; omega) (by simp)) (Below.refl _ _) (fun _ => rfl)
    (fun pre W => ((∀ p ∈ pre, p.1.2 = 0) ∧ W.cell? ⟨w.heap.size, 0, none⟩ = some (.int .i64 0) ∧ W.frozen? ⟨w.heap.size, 0, none⟩ = false) ∧ Below w.heap.size w W)
    (fun c pre W => (c = .ret ∧ ∃ ini last, pre = ini ++ [last] ∧ (∀ p ∈ ini, p.1.2 = 0) ∧ last.1.2 ≠ 0 ∧ W.cell? ⟨w.heap.size, 0, none⟩ = some (.int .i64 ((last.1.1 : Int) + 1))) ∧ Below w.heap.size w W)
    (OwnFrom.and (Own.from (fun s A B row hs hg hr => ⟨hs.1, cell_kept hs.2.1 hg hr, (frozen_kept hs.2.1 hg hr).trans hs.2.2⟩) _) (ownFrom_below (Nat.le_refl _) (by simp; omega)))
    (fun c => OwnFrom.and (Own.from (fun s A B row hs hg hr => by obtain ⟨hc, ini, last, e1, e2, e3, e4⟩ := hs; exact ⟨hc, ini, last, e1, e2, e3, cell_kept e4 hg hr⟩) _) (ownFrom_below (Nat.le_refl _) (by simp; omega)))
    ⟨⟨by simp, (bR.alloc _).cell, (bR.alloc _).frozen⟩, hB0⟩
    (fun x => { tmps := #[.slice a ds.length cap, undef, .pointer (some ⟨w.heap.size, 0, none⟩), .int .i64 (x.1.1 : Int), .int .u32 (x.1.2 : Int), .slice a ds.length cap, .func (.func 45) #[] #[.pointer (some ⟨w.heap.size + 1, 0, none⟩)], .int .i64 (x.1.1 : Int), .int .u32 (x.1.2 : Int), undef, undef, undef, undef], defers := [] }) ?assign ?body ?done ?stop
  case assign =>
    intro l x W K hK
    gi_wp2
    exact hK
  case body =>
    rintro l pre x W ⟨⟨hp, hcr, hfr⟩, hB⟩ _
    have hx1 := x.2.1
    have hx2 := hI.2.1
    by_cases hx : x.1.2 = 0
    · have hx' : ((x.1.2 : Int) != 0) = false := by simp [hx]
      have HX : Hid (x.1.2 = 0) := hx
      clear hx
      gi_wp2
      exact ⟨KeepsFrom.refl _ _, KpB.refl _ _ _, ⟨fun p hp' => (List.mem_append.1 hp').elim (hp p) (fun e => by simp at e; subst e; exact HX.out), hcr, hfr⟩, hB⟩
    · have hx' : ((x.1.2 : Int) != 0) = true := by simp [hx]
      gi_wp2
      exact ⟨(KeepsOthers.setCell _ _ _).from _, ⟨rfl, pre, x, rfl, hp, hx, World.cell?_setCell_same' _ _ _ (by rw [hcr]; rfl)⟩, hB.setCell (p := ⟨w.heap.size, 0, none⟩) (Nat.le_refl _) _⟩
  case done =>
    rintro D ys W hD hys ⟨⟨hne, hcr, hfr⟩, hB⟩ hK
    gi_wp2
    have hz : sizeL ds = 0 := by
      apply sizeL_eq
      · intro i _
        by_cases hi : i < ds.length
        · have hm := seqB_mem (k := ds.length) hi (by omega)
          rw [← hys] at hm
          obtain ⟨p, hp1, hp2⟩ := List.mem_map.1 hm
          have := hne p hp1
          rw [hp2] at this
          exact this
        · simp [List.getElem?_eq_none (show ds.length ≤ i by omega)]
      · intro h; omega
    have hK' := (KeepsOthers.setCell W ⟨w.heap.size, 0, none⟩ (.int .i64 0)).same D _ hK rfl
    refine ⟨by simp, .inl ⟨_, _, rfl, run_takeDeferred hK', ?_⟩⟩
    have hc5 := cell_kept (World.cell?_setCell_same' W ⟨w.heap.size, 0, none⟩ (.int .i64 0) (by rw [hcr]; rfl)) (grownBy_putObj' _ D (.deferred none)) (fun r e => by cases e; exact ⟨_, hK', rfl⟩)
    refine ⟨.int .i64 0, ?_, by rw [hz]; rfl, (hB.setCell (p := ⟨w.heap.size, 0, none⟩) (Nat.le_refl _) _).trans (belowK_b (w := w) (Nat.le_refl _) _ D _ _ (by simp at hD; omega) hK' rfl rfl)⟩
    simp [results, Try.f35, go_sem, hc5]
  case stop =>
    rintro D c pre W hD ⟨k, hk, hpre⟩ ⟨⟨rfl, ini, last, rfl, e2, e3, hcr⟩, hB⟩ hK
    gi_wp2
    refine ⟨by simp, .inl ⟨_, _, rfl, run_takeDeferred hK, ?_⟩⟩
    have hc5 := cell_kept hcr (grownBy_putObj' _ D (.deferred none)) (fun r e => by cases e; exact ⟨_, hK, rfl⟩)
    obtain ⟨k', rfl⟩ : ∃ k', k = k' + 1 := by
      cases k with
      | zero => simp [seqB] at hpre
      | succ k' => exact ⟨k', rfl⟩
    rw [seqB_succ, List.map_append] at hpre
    obtain ⟨hini, e5⟩ := List.append_inj' hpre rfl
    have e6 : last.1 = (ds.length - 1 - k', ds[ds.length - 1 - k']?.getD 0) := by simpa using e5
    have hz : sizeL ds = ds.length - 1 - k' + 1 := by
      apply sizeL_eq
      · intro i hi
        by_cases hil : i < ds.length
        · have hm := seqB_mem (k := k') hil (by omega)
          rw [← hini] at hm
          obtain ⟨p, hp1, hp2⟩ := List.mem_map.1 hm
          have := e2 p hp1
          rw [hp2] at this
          exact this
        · simp [List.getElem?_eq_none (show ds.length ≤ i by omega)]
      · intro _
        rw [e6] at e3
        simpa using e3
    refine ⟨.int .i64 ((last.1.1 : Int) + 1), ?_, by rw [hz, e6]; simp, hB.trans (belowK_b (w := w) (Nat.le_refl _) W D _ _ (by simp at hD; omega) hK rfl rfl)⟩
    simp [results, Try.f35, go_sem, hc5]

theorem size_c (sv : Value) (ds : List Nat) (w : World) (hI : Digs w sv ds) :
    Calls Try.prog 35 #[sv] w fun e W' => e = .returned (.int .i64 (sizeL ds : Nat)) ∧ Below w.heap.size w W' := callsIn_wide.1 (size_in 3 (by omega) sv ds w hI)

theorem Digs.trim {W : World} {a : Option Addr} {cap : Nat} {ds : List Nat} (h : Digs W (.slice a ds.length cap) ds) : Digs W (.slice a (sizeL ds) cap) (trimL ds) := by
  obtain ⟨h1, h2, h3⟩ := h
  have hl := sizeL_le ds
  refine ⟨small_trimL h1, by rw [length_trimL]; omega, ?_⟩
  rcases h3 with ⟨e, rfl⟩ | ⟨b, off, cap', e, hc, hj⟩
  · cases e; exact .inl ⟨rfl, rfl⟩
  · cases e
    refine .inr ⟨b, off, cap, by rw [length_trimL], by rw [length_trimL]; omega, fun j hlt => ?_⟩
    rw [length_trimL] at hlt
    rw [getD_trimL]
    exact hj j (by omega)

set_option maxHeartbeats 1000000 in
/-- nat.trim(n): the same digits, without the zeros at the end. -/
theorem trim_c (a : Option Addr) (cap : Nat) (ds : List Nat) (w : World) (hI : Digs w (.slice a ds.length cap) ds) :
    Calls Try.prog 27 #[.slice a ds.length cap] w fun e W' => e = .returned (.slice a (sizeL ds) cap) ∧ Below w.heap.size w W' := by
  obtain ⟨a', cap', he, hcap⟩ := hI.shape
  obtain ⟨rfl, rfl⟩ : a = a' ∧ cap = cap' := by simpa using he
  have hl := sizeL_le ds
  have hl2 := hI.2.1
  clear he
  go_enter Try.func27, Try.ntmps27
  go_wp2_with (go_at_call 35; refine (size_c _ _ _ hI).mono ?_; rintro e w' ⟨rfl, hb⟩)
  go_ret
  exact ⟨rfl, hb⟩
end Go.Proofs.Ytceonncbflmciaa
