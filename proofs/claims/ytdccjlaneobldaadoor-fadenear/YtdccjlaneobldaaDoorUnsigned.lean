/- tri.unsigned: whether no entry on the diagonal has a sign. -/
import Derived.Test.YtdccjlaneobldaaDoorShaped
namespace Go.Proofs.YtdccjlaneobldaaDoor
open Go.RowKit Go.Shelf
attribute [local go_sem] Oper.semAt_some

/-- Has a float a sign? -/
def sg (x : Nat) : Bool := decide (9223372036854775808 ≤ x)
def unsB (n : Nat) (xs : List Nat) : Bool := (List.range (n + 1)).all fun r => !sg (xs[place n r]?.getD 0)

theorem place_in : ∀ n, n ≤ 6 → ∀ r, r ≤ n → place n r + (n - r) < (n + 1) * (n + 2) / 2 := by decide
theorem sizeZ_nat (n : Nat) (h1 : 1 ≤ n) (h6 : n ≤ 6) : sizeZ (n : Int) = (((n + 1) * (n + 2) / 2 : Nat) : Int) := by
  have : n = 1 ∨ n = 2 ∨ n = 3 ∨ n = 4 ∨ n = 5 ∨ n = 6 := by omega
  rcases this with rfl | rfl | rfl | rfl | rfl | rfl <;> rfl
theorem place_lt {n r : Nat} {xs : List Nat} (h6 : n ≤ 6) (hr : r ≤ n) (hl : xs.length = (n + 1) * (n + 2) / 2) : place n r < xs.length := by
  have := place_in n h6 r hr; omega

set_option maxRecDepth 100000 in
set_option maxHeartbeats 2000000 in
theorem unsigned_in (m : Nat) (hm : 3 ≤ m) (n : Nat) (r t : Int) (sv : Value) (xs : List Nat) (w : World) (hn6 : n ≤ 6) (hlen : xs.length = (n + 1) * (n + 2) / 2) (hF : Fls w sv xs) :
    CallsIn Fence.wide m Tryd.prog 33 #[fv (n : Int) sv r t] w fun e w' => e = .returned (.bool (unsB n xs)) ∧ Below w.heap.size w w' := by
  have h1 : 1 ≤ m := by omega
  have hro : Fence.wide.round = none := rfl
  obtain ⟨U, HU⟩ : ∃ U, Hid (unsB n xs = U) := ⟨_, rfl⟩
  have HL : Hid (xs.length = (n + 1) * (n + 2) / 2) := hlen
  have hl := hF.2.1
  have hpos : 0 < xs.length := by have := place_lt (r := 0) hn6 (by omega) hlen; omega
  obtain ⟨b, off, cap, rfl, hb, hcap, hcs⟩ := hF.cell hpos
  refine callsIn_of_wp_marks Tryd.func33 rfl trivial ?_ hro
  rw [HU.out]
  clear hlen
  simp only [Tryd.ntmps33, List.size_toArray, List.length_cons, List.length_nil, Nat.reduceAdd, Nat.reduceSub, Array.replicate_succ, Array.replicate_zero, List.push_toArray, List.append_toArray, List.nil_append, List.cons_append]
  gi_wp2_with (refine ⟨trivial, ?_⟩; gi_at_call 52; refine (rows_in Fence.wide (m - 1) trivial hro _ _).mono ?_; rintro e w' ⟨rfl, rfl⟩)
  have bR := Boxed.new (w.alloc (fcells (n : Int) (.slice (some ⟨b, off, none⟩) xs.length cap) r t)) 4 (.bool false)
  have bN := Boxed.new ((w.alloc (fcells (n : Int) (.slice (some ⟨b, off, none⟩) xs.length cap) r t)).alloc (.cells #[.bool false] 4)) 3 (.int .i64 (n : Int))
  simp only [World.size_alloc] at bR bN
  have bR := bR.alloc (.cells #[.int .i64 (n : Int)] 3)
  have cF : (((w.alloc (fcells (n : Int) (.slice (some ⟨b, off, none⟩) xs.length cap) r t)).alloc (.cells #[.bool false] 4)).alloc (.cells #[.int .i64 (n : Int)] 3)).cell? ⟨w.heap.size, 1, none⟩ = some (.slice (some ⟨b, off, none⟩) xs.length cap) := by
    have h0 := cell_new w #[.int .i64 (n : Int), .slice (some ⟨b, off, none⟩) xs.length cap, .int .i64 r, .int .i64 t] 24 1 _ rfl
    have hb2 : Below (w.heap.size + 1) (w.alloc (fcells (n : Int) (.slice (some ⟨b, off, none⟩) xs.length cap) r t)) (((w.alloc (fcells (n : Int) (.slice (some ⟨b, off, none⟩) xs.length cap) r t)).alloc (.cells #[.bool false] 4)).alloc (.cells #[.int .i64 (n : Int)] 3)) := ((Below.refl _ _).alloc (by simp) _).alloc (by simp) _
    exact (hb2.cell (p := ⟨w.heap.size, 1, none⟩) (by simp)).trans h0
  have hB0 : Below w.heap.size w (((w.alloc (fcells (n : Int) (.slice (some ⟨b, off, none⟩) xs.length cap) r t)).alloc (.cells #[.bool false] 4)).alloc (.cells #[.int .i64 (n : Int)] 3)) :=
    (((Below.refl _ w).alloc (Nat.le_refl _) _).alloc (by simp) _).alloc (by simp; omega) _
  refine wpIn_rangeFunc_ownG hro h1 (gf := 72) (lb := #[.pointer (some ⟨w.heap.size + 1 + 1, 0, none⟩)]) rfl trivial (enters_of Tryd.func72 (by kernel_rfl) rfl)
    (rows_stops Fence.wide (m - 1) trivial hro (by omega) (w.heap.size + 1 + 1) w.heap.size n hn6 _ bN.cell) KpB_t (KpB_b (by simp; omega) (by simp)) (Below.refl _ _) (fun _ => rfl)
    (fun pre W => ((∀ p ∈ pre, sg (xs[p.1.2]?.getD 0) = false) ∧ W.cell? ⟨w.heap.size, 1, none⟩ = some (.slice (some ⟨b, off, none⟩) xs.length cap) ∧ (W.cell? ⟨w.heap.size + 1, 0, none⟩ = some (.bool false) ∧ W.frozen? ⟨w.heap.size + 1, 0, none⟩ = false)) ∧ Below w.heap.size w W)
    (fun c pre W => (c = .ret ∧ (∃ x : It n, sg (xs[x.1.2]?.getD 0) = true) ∧ W.cell? ⟨w.heap.size + 1, 0, none⟩ = some (.bool false)) ∧ Below w.heap.size w W)
    (OwnFrom.and (Own.from (fun s A B row hs hg hr => ⟨hs.1, cell_kept hs.2.1 hg hr, ⟨cell_kept hs.2.2.1 hg hr, (frozen_kept hs.2.2.1 hg hr).trans hs.2.2.2⟩⟩) _) (ownFrom_below (Nat.le_refl _) (by simp; omega)))
    (fun c => OwnFrom.and (Own.from (fun s A B row hs hg hr => ⟨hs.1, hs.2.1, cell_kept hs.2.2 hg hr⟩) _) (ownFrom_below (Nat.le_refl _) (by simp; omega)))
    ⟨⟨by simp, cF, ⟨bR.cell, bR.frozen⟩⟩, hB0⟩
    (fun x => { tmps := #[fv (n : Int) (.slice (some ⟨b, off, none⟩) xs.length cap) r t, .pointer (some ⟨w.heap.size, 0, none⟩), .pointer (some ⟨w.heap.size + 1, 0, none⟩), undef, .int .i64 (x.1.2 : Int), .pointer (some ⟨w.heap.size, 0, none⟩), .int .i64 (n : Int), .func (.func 72) #[] #[.pointer (some ⟨w.heap.size + 1 + 1, 0, none⟩)], .int .i64 (x.1.1 : Int), .int .i64 (x.1.2 : Int), undef, undef, undef, undef, undef, undef], defers := [] }) ?assign ?body ?done ?stop
  case assign =>
    intro l x W K hK
    gi_wp2
    exact hK
  case body =>
    rintro l pre x W ⟨⟨hp, hcf, ⟨hcr, hfr⟩⟩, hB⟩ _
    have h1' : 1 ≤ m - 1 - 1 := by omega
    have hx1 := x.2.1
    have hx2 : x.1.2 < xs.length := by rw [← x.2.2]; exact place_lt hn6 hx1 HL.out
    have hcx := (hB.cell (p := ⟨b, off + x.1.2, none⟩) hb).trans (hcs _ hx2)
    have hok := okF_getD hF.1 x.1.2
    obtain ⟨y, hy⟩ : ∃ y, xs[x.1.2]?.getD 0 = y := ⟨_, rfl⟩
    rw [hy] at hcx hok
    have HY : Hid (xs[x.1.2]?.getD 0 = y) := hy
    clear hy
    cases hsg : sg y with
    | true =>
      have hsg' : decide (9223372036854775808 ≤ y) = true := hsg
      gi_wp2_with (refine ⟨trivial, ?_⟩; gi_at_call 20; refine (CallsIn.inRound l (callsIn_wide.2 (signbit_c y hok _))).mono ?_; rintro e w' ⟨rfl, rfl⟩)
      exact ⟨(KeepsOthers.setCell _ _ _).from _, ⟨rfl, ⟨x, by rw [HY.out]; exact hsg⟩, World.cell?_setCell_same' _ _ _ (by rw [hcr]; rfl)⟩, hB.setCell (p := ⟨w.heap.size + 1, 0, none⟩) (by simp) _⟩
    | false =>
      have hsg' : decide (9223372036854775808 ≤ y) = false := hsg
      gi_wp2_with (refine ⟨trivial, ?_⟩; gi_at_call 20; refine (CallsIn.inRound l (callsIn_wide.2 (signbit_c y hok _))).mono ?_; rintro e w' ⟨rfl, rfl⟩)
      exact ⟨KeepsFrom.refl _ _, KpB.refl _ _ _, ⟨fun p hp' => (List.mem_append.1 hp').elim (hp p) (fun e => by simp at e; subst e; rw [HY.out]; exact hsg), hcf, ⟨hcr, hfr⟩⟩, hB⟩
  case done =>
    rintro D ys W hD hys ⟨⟨hne, _, ⟨hcr, hfr⟩⟩, hB⟩ hK
    gi_wp2
    have hz : U = true := by
      rw [← HU.out, unsB, List.all_eq_true]
      intro k hk
      have hm := seqR_mem (n := n) (k := n + 1) (j := k) (by simpa using hk)
      rw [← hys] at hm
      obtain ⟨p, hp1, hp2⟩ := List.mem_map.1 hm
      have := hne p hp1
      rw [hp2] at this
      simp [this]
    have hK' := (KeepsOthers.setCell W ⟨w.heap.size + 1, 0, none⟩ (.bool true)).same D _ hK rfl
    refine ⟨by simp, .inl ⟨_, _, rfl, run_takeDeferred hK', ?_⟩⟩
    have hc5 := cell_kept (World.cell?_setCell_same' W ⟨w.heap.size + 1, 0, none⟩ (.bool true) (by rw [hcr]; rfl)) (grownBy_putObj' _ D (.deferred none)) (fun r e => by cases e; exact ⟨_, hK', rfl⟩)
    refine ⟨.bool true, ?_, by rw [hz], (hB.setCell (p := ⟨w.heap.size + 1, 0, none⟩) (by simp) _).trans (belowK_b (w := w) (Nat.le_refl _) _ D _ _ (by simp at hD; omega) hK' rfl rfl)⟩
    simp [results, Tryd.f33, go_sem, hc5]
  case stop =>
    rintro D c pre W hD ⟨k, hk, hpre⟩ ⟨⟨rfl, ⟨x, hx⟩, hcr⟩, hB⟩ hK
    gi_wp2
    have hz : U = false := by
      rw [← HU.out, unsB, List.all_eq_false]
      exact ⟨x.1.1, by have := x.2.1; simp; omega, by rw [x.2.2, hx]; simp⟩
    refine ⟨by simp, .inl ⟨_, _, rfl, run_takeDeferred hK, ?_⟩⟩
    have hc5 := cell_kept hcr (grownBy_putObj' _ D (.deferred none)) (fun r e => by cases e; exact ⟨_, hK, rfl⟩)
    refine ⟨.bool false, ?_, by rw [hz], hB.trans (belowK_b (w := w) (Nat.le_refl _) W D _ _ (by simp at hD; omega) hK rfl rfl)⟩
    simp [results, Tryd.f33, go_sem, hc5]

theorem unsigned_c (n : Nat) (r t : Int) (sv : Value) (xs : List Nat) (w : World) (hn6 : n ≤ 6) (hlen : xs.length = (n + 1) * (n + 2) / 2) (hF : Fls w sv xs) :
    Calls Tryd.prog 33 #[fv (n : Int) sv r t] w fun e w' => e = .returned (.bool (unsB n xs)) ∧ Below w.heap.size w w' := callsIn_wide.1 (unsigned_in 3 (by omega) n r t sv xs w hn6 hlen hF)
end Go.Proofs.YtdccjlaneobldaaDoor
