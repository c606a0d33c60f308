/- Lists of dyads: rows that a call makes by append, and rows that it is handed. -/
import Derived.Deep.AppendLies
import Derived.Test.YtbkmpoeaindnaaaDoorDyOne
import Derived.Test.YtbkmpoeaindnaaaDoorOwn
namespace Go.Proofs.YtbkmpoeaindnaaaDoor.N
open Go.RowKit Go.Shelf

theorem infoD : (Tryd.prog.info? 46).map (fun i => (i.zero, i.size, i.bytes)) = some (some (dyv false (.slice none 0 0) 0), 3, 40) := by kernel_rfl

abbrev DT := Bool × Value × Int
/-- The cells of dyads. -/
def dlc : List DT → List Value
  | [] => []
  | x :: l => .bool x.1 :: x.2.1 :: .int .i64 x.2.2 :: dlc l
theorem dlc_length : ∀ l : List DT, (dlc l).length = l.length * 3
  | [] => rfl
  | x :: l => by simp only [dlc, List.length_cons, dlc_length l]; omega
theorem dlc_append (l : List DT) (x : DT) : dlc (l ++ [x]) = dlc l ++ [.bool x.1, x.2.1, .int .i64 x.2.2] := by
  induction l with
  | nil => rfl
  | cons y l ih => simp only [List.cons_append, dlc, ih]
theorem dlc_at : ∀ (l : List DT) (j : Nat) (x : DT), l[j]? = some x → (dlc l)[3 * j]? = some (.bool x.1) ∧ (dlc l)[3 * j + 1]? = some x.2.1 ∧ (dlc l)[3 * j + 2]? = some (.int .i64 x.2.2)
  | [], j, x, h => by simp at h
  | y :: l, 0, x, h => by
    simp only [List.getElem?_cons_zero, Option.some.injEq] at h
    subst h
    exact ⟨rfl, rfl, rfl⟩
  | y :: l, j + 1, x, h => by
    rw [List.getElem?_cons_succ] at h
    have k := dlc_at l j x h
    rw [show 3 * (j + 1) = 3 * j + 1 + 1 + 1 by omega]
    exact k

/-- No digit. -/
def nd (x : Value) : Prop := ∀ n, x ≠ .int .u32 n
theorem nd_bool (b : Bool) : nd (.bool b) := fun _ h => by cases h
theorem nd_slice (a : Option Addr) (l c : Nat) : nd (.slice a l c) := fun _ h => by cases h
theorem nd_i64 (z : Int) : nd (.int .i64 z) := fun _ h => by cases h

/-- A row of dyads that a call makes: it owns it, and no cell of its block is a digit. -/
structure DRow (W : World) (base : Nat) (v : Value) (n : Nat) (l : List DT) : Prop where
  own : W.ownsRow base 46 3 v n (dlc l)
  nds : ∀ g, v.ownBlock = some g → ∀ cur t fr, W.heap[g]? = some (.cells cur t fr) → ∀ x ∈ cur.toList, nd x
theorem zero_mem {z : Array Value} {n : Nat} {x : Value} (h : x ∈ (Builtin.zeroCells z n).toList) (hz : 0 < z.size) : x ∈ z.toList := by
  unfold Builtin.zeroCells at h
  simp only [Array.toList_map, List.mem_map] at h
  obtain ⟨k, _, rfl⟩ := h
  have : k % z.size < z.size := Nat.mod_lt _ hz
  simp [this]
theorem z_nd {x : Value} (h : x ∈ (dyv false (.slice none 0 0) 0).cells.toList) : nd x := by
  have e : (dyv false (.slice none 0 0) 0).cells.toList = [.bool false, .slice none 0 0, .int .i64 0] := by rfl
  rw [e] at h
  simp only [List.mem_cons, List.not_mem_nil, or_false] at h
  rcases h with rfl | rfl | rfl
  · exact nd_bool _
  · exact nd_slice _ _ _
  · exact nd_i64 _

set_option maxRecDepth 100000 in
theorem run_append_dy (ty : TypeId) (w : World) (base : Nat) (v : Value) (n : Nat) (l : List DT) (hown : DRow w base v n l)
    (B : Nat) (c : Nat) (x : DT) (hB : w.heap[B]? = some (dcells x.1 x.2.1 x.2.2)) (hx : ∃ a len cap, x.2.1 = .slice a len cap) (hn : n ≤ 1000) (hbase : base ≤ w.heap.size) (H : Nat) (hH : w.heap.size = H) :
    ∃ g cap w', (Builtin.append_ #[40, 40] ty #[v, .slice (some ⟨B, 0, none⟩) 1 c]).run Tryd.prog w = .ok (.slice (some ⟨g, 0, none⟩) (n + 1) cap) w' ∧
      DRow w' base (.slice (some ⟨g, 0, none⟩) (n + 1) cap) (n + 1) (l ++ [x]) ∧ w.grownBy w' v.ownBlock ∧ (v.ownBlock = some g ∨ g = H) ∧ g < w'.heap.size := by
  obtain ⟨i0, hi, hz0, hz1, hz2⟩ := info_parts infoD
  obtain ⟨nb, nv, ne⟩ := x
  obtain ⟨xa, xl, xc, hxs⟩ := hx
  simp only at hxs hB
  subst hxs
  have hnews := World.news_of_block (cs := #[.bool nb, .slice xa xl xc, .int .i64 ne]) (t := 46) (fr := (0, 0)) hB
  have h1 : ∀ u ∈ [Value.bool nb, .slice xa xl xc, .int .i64 ne], u.oneCell' = true := by
    intro u hu
    simp only [List.mem_cons, List.not_mem_nil, or_false] at hu
    rcases hu with rfl | rfl | rfl <;> rfl
  have hndn : ∀ u ∈ [Value.bool nb, .slice xa xl xc, .int .i64 ne], nd u := by
    intro u hu
    simp only [List.mem_cons, List.not_mem_nil, or_false] at hu
    rcases hu with rfl | rfl | rfl
    · exact nd_bool _
    · exact nd_slice _ _ _
    · exact nd_i64 _
  have hsz : (dyv false (.slice none 0 0) 0).cells.size = 3 := rfl
  have h63 : n + 1 ≤ maxLen := by unfold maxLen; omega
  obtain ⟨g, cap, w', hr, h2, h3, h4, h5⟩ := run_append_lies (P := Tryd.prog) w 40 ty base 46 i0 (dyv false (.slice none 0 0) 0) 3 40 Tryd.underlying40 hi hz0 hz1 hz2 hsz (by decide) v n (dlc l) hown.own ⟨B, 0, none⟩ 1 c [.bool nb, .slice xa xl xc, .int .i64 ne] rfl hnews h1 (by decide) h63 (by omega) hbase H hH
  refine ⟨g, cap, w', hr, ⟨by rw [dlc_append]; exact h2, ?_⟩, h3, h4, h5⟩
  intro g' hg' cur t fr hcur u hu
  simp only [Value.ownBlock, Option.some.injEq] at hg'
  subst hg'
  rcases hown.own.2 with ⟨rfl, rfl⟩ | ⟨q, qcap, qcur, rfl, hbg, hg, hnc, hcm, hcs, htake⟩
  · have hr2 := run_append_nil (P := Tryd.prog) w 40 ty 46 i0 (dyv false (.slice none 0 0) 0) Tryd.underlying40 hi hz0 ⟨B, 0, none⟩ 1 c [.bool nb, .slice xa xl xc, .int .i64 ne] (by rw [hz1]; rfl) hnews (by decide) (by decide) (by rw [hz2]; decide)
    rw [hr2] at hr
    injection hr with e1 e2
    have e3 : w.heap.size = g := by injection e1 with e; injection e with e; injection e
    subst e3 e2
    have e4 := heap_alloc_new w.drew (.cells (#[.bool nb, .slice xa xl xc, .int .i64 ne] ++ Builtin.zeroCells (dyv false (.slice none 0 0) 0).cells (grownCap w 1 0 46 - 1)) 46)
    have e5 := e4.symm.trans hcur
    simp only [Option.some.injEq, Obj.cells.injEq] at e5
    rw [← e5.1, Array.toList_append, List.mem_append] at hu
    rcases hu with hu | hu
    · exact hndn u hu
    · exact z_nd (zero_mem hu (by rw [hsz]; decide))
  · have hq := hown.nds q rfl qcur _ _ hg
    by_cases hroom : n + 1 ≤ qcap
    · have hr2 := run_append_room (P := Tryd.prog) w 40 ty 46 i0 Tryd.underlying40 hi q n qcap qcur hg ⟨B, 0, none⟩ 1 c [.bool nb, .slice xa xl xc, .int .i64 ne] (by rw [hz1]; rfl) hnews h1 hroom (by rw [hz1, hcs]; show n * 3 + 3 ≤ qcap * 3; omega)
      rw [hr2] at hr
      injection hr with e1 e2
      have e3 : q = g := by injection e1 with e; injection e with e; injection e
      subst e3 e2
      have e5 := (setRow_heap w q qcur _ _ _ hg).symm.trans hcur
      simp only [Option.some.injEq, Obj.cells.injEq] at e5
      rw [← e5.1] at hu
      simp only [List.mem_append] at hu
      rcases hu with (hu | hu) | hu
      · exact hq u (List.mem_of_mem_take hu)
      · exact hndn u hu
      · exact hq u (List.mem_of_mem_drop hu)
    · have holds : ∀ j u, (dlc l)[j]? = some u → w.cell? ((⟨q, 0, none⟩ : Addr).add j) = some u := hown.own.cells (g := q) rfl
      have hr2 := run_append_grow (P := Tryd.prog) w 40 ty 46 i0 (dyv false (.slice none 0 0) 0) Tryd.underlying40 hi hz0 ⟨q, 0, none⟩ n qcap (dlc l) (by rw [hz1]; exact hown.own.1) holds ⟨B, 0, none⟩ 1 c [.bool nb, .slice xa xl xc, .int .i64 ne] (by rw [hz1]; rfl) hnews (by omega) (by omega) (growslice_fits (by omega) (by rw [hz2]; omega))
      rw [hr2] at hr
      injection hr with e1 e2
      have e3 : w.heap.size = g := by injection e1 with e; injection e with e; injection e
      subst e3 e2
      have e5 := (heap_alloc_new w.drew _).symm.trans hcur
      simp only [Option.some.injEq, Obj.cells.injEq] at e5
      rw [← e5.1] at hu
      simp only [Array.toList_append, List.mem_append] at hu
      rcases hu with (hu | hu) | hu
      · rw [← htake] at hu
        exact hq u (List.mem_of_mem_take hu)
      · exact hndn u hu
      · exact z_nd (zero_mem hu (by rw [hsz]; decide))

theorem Dy.grown {w w' : World} {base : Nat} {v : Value} {n : Nat} {l : List DT} (D : DRow w base v n l) (hg : w.grownBy w' v.ownBlock) {neg : Bool} {nv : Value} {e z g : Int} (h : Dy w neg nv e z g) : Dy w' neg nv e z g := by
  obtain ⟨ds, ⟨h1, h2, h3⟩, h4⟩ := h
  refine ⟨ds, ⟨h1, h2, ?_⟩, h4⟩
  rcases h3 with h3 | ⟨b, off, cap, e1, hc, hj⟩
  · exact .inl h3
  · refine .inr ⟨b, off, cap, e1, hc, fun j hl => ?_⟩
    have hx := hj j hl
    have hlt : b < w.heap.size := by
      rcases Nat.lt_or_ge b w.heap.size with h | h
      · exact h
      · simp only [World.cell?, Array.getElem?_eq_none h] at hx
        cases hx
    have hne : some b ≠ v.ownBlock := by
      intro e2
      have hx2 := hx
      cases hb : w.heap[b]? with
      | none => simp only [World.cell?, hb] at hx2; cases hx2
      | some o =>
        cases o with
        | cells cur t fr =>
          have hn := D.nds b e2.symm cur t fr hb
          simp only [World.cell?, hb] at hx2
          have hm : Value.int .u32 ((ds[j]?.getD 0 : Nat) : Int) ∈ cur.toList := by
            have hx3 : cur[off + j]? = some (Value.int .u32 ((ds[j]?.getD 0 : Nat) : Int)) := by simpa using hx2
            rw [← Array.getElem?_toList] at hx3
            exact List.mem_of_getElem? hx3
          exact hn _ hm _ rfl
        | _ => simp [World.cell?, hb] at hx2
    rw [World.cell?_of_block (w := w) (hg.block b hlt hne)]
    exact hx

/-- A row of dyads that a call makes, with their numbers. -/
def OwnD (W : World) (base : Nat) (v : Value) (k : Nat) (Z : Nat → Int) (g : Int) : Prop :=
  ∃ l : List DT, l.length = k ∧ DRow W base v k l ∧ ∀ j x, l[j]? = some x → Dy W x.1 x.2.1 x.2.2 (Z j) g
theorem OwnD.nil (W : World) (base : Nat) (Z : Nat → Int) (g : Int) : OwnD W base (.slice none 0 0) 0 Z g :=
  ⟨[], rfl, ⟨World.ownsRow_nil _ _ _ _, fun g h => by cases h⟩, fun j x h => by simp at h⟩
theorem OwnD.below {W W' : World} {base : Nat} {v : Value} {k : Nat} {Z : Nat → Int} {g : Int} (h : OwnD W base v k Z g) (hb : Below W.heap.size W W') : OwnD W' base v k Z g := by
  obtain ⟨l, h1, h2, h3⟩ := h
  refine ⟨l, h1, ⟨?_, ?_⟩, fun j x hx => (h3 j x hx).below hb (Nat.le_refl _)⟩
  · refine ⟨h2.own.1, ?_⟩
    rcases h2.own.2 with k1 | ⟨q, cap, cur, e, h3, hg, h4⟩
    · exact .inl k1
    · exact .inr ⟨q, cap, cur, e, h3, (hb.block q (Array.getElem?_eq_some_iff.1 hg).1).trans hg, h4⟩
  · intro q hq cur t fr hc
    rcases h2.own.2 with ⟨rfl, _⟩ | ⟨q', cap, cur', rfl, k3, hg, k4⟩
    · cases hq
    · simp only [Value.ownBlock, Option.some.injEq] at hq
      subst hq
      rw [hb.block q' (Array.getElem?_eq_some_iff.1 hg).1] at hc
      exact h2.nds q' rfl cur t fr hc
theorem OwnD.ge {W : World} {base : Nat} {v : Value} {k : Nat} {Z : Nat → Int} {g : Int} (h : OwnD W base v k Z g) {q : Nat} (hq : v.ownBlock = some q) : base ≤ q := by
  obtain ⟨l, h1, h2, h3⟩ := h
  rcases h2.own.2 with ⟨rfl, _⟩ | ⟨q', cap, cur, rfl, hb, _⟩
  · simp [Value.ownBlock] at hq
  · simp [Value.ownBlock] at hq; omega
theorem OwnD.congr {W : World} {base : Nat} {v : Value} {k : Nat} {Z Z' : Nat → Int} {g : Int} (h : OwnD W base v k Z g) (he : ∀ j, j < k → Z j = Z' j) : OwnD W base v k Z' g := by
  obtain ⟨l, h1, h2, h3⟩ := h
  refine ⟨l, h1, h2, fun j x hx => ?_⟩
  have hj : j < k := by rw [← h1]; exact (List.getElem?_eq_some_iff.1 hx).1
  rw [← he j hj]
  exact h3 j x hx

/-- What an append of a dyad leaves. -/
theorem run_append_own_dy (ty : TypeId) (w : World) (base : Nat) (v : Value) (n : Nat) (Z : Nat → Int) (u : Int) (hown : OwnD w base v n Z u)
    (B : Nat) (c : Nat) (neg : Bool) (nv : Value) (e : Int) (hB : w.heap[B]? = some (dcells neg nv e)) (hx : Dy w neg nv e (Z n) u) (hn : n ≤ 1000) (hbase : base ≤ w.heap.size) :
    ∃ g cap w', (Builtin.append_ #[40, 40] ty #[v, .slice (some ⟨B, 0, none⟩) 1 c]).run Tryd.prog w = .ok (.slice (some ⟨g, 0, none⟩) (n + 1) cap) w' ∧
      OwnD w' base (.slice (some ⟨g, 0, none⟩) (n + 1) cap) (n + 1) Z u ∧ w.grownBy w' v.ownBlock ∧ (∀ q, v.ownBlock = some q → base ≤ q) := by
  have hge := fun q (hq : v.ownBlock = some q) => hown.ge hq
  obtain ⟨l, h1, h2, h3⟩ := hown
  obtain ⟨g, cap, w', hr, hD, hg, hat, hlt⟩ := run_append_dy ty w base v n l h2 B c (neg, nv, e) hB hx.shape hn hbase _ rfl
  refine ⟨g, cap, w', hr, ⟨l ++ [(neg, nv, e)], by simp [h1], hD, fun j x hj => ?_⟩, hg, hge⟩
  rcases Nat.lt_or_ge j l.length with hl | hl
  · rw [List.getElem?_append_left hl] at hj
    exact (h3 j x hj).grown h2 hg
  · rw [List.getElem?_append_right hl] at hj
    have hj0 : j - l.length = 0 := by
      rcases Nat.eq_zero_or_pos (j - l.length) with h | h
      · exact h
      · rw [List.getElem?_eq_none (by simp; omega)] at hj; cases hj
    rw [hj0] at hj
    simp only [List.getElem?_cons_zero, Option.some.injEq] at hj
    subst hj
    have : j = n := by omega
    subst this
    exact hx.grown h2 hg

/-- .. at the operation. -/
theorem wp_append_dy (w : World) {o : Oper} {a : Act} {K : Act → World → Prop} {Q : Exit → Act → World → Prop} (s x : Operand)
    (ho : o.op = .call { callee := .builtin .append, args := #[s, x], argTypes := #[40, 40] })
    (base : Nat) (v : Value) (n : Nat) (Z : Nat → Int) (u : Int) (hs : a.eval s = v) (hown : OwnD w base v n Z u)
    (B : Nat) (c : Nat) (neg : Bool) (nv : Value) (e : Int) (hx' : a.eval x = .slice (some ⟨B, 0, none⟩) 1 c) (hB : w.heap[B]? = some (dcells neg nv e)) (hx : Dy w neg nv e (Z n) u) (hn : n ≤ 1000) (hbase : base ≤ w.heap.size)
    (h : ∀ g cap w', OwnD w' base (.slice (some ⟨g, 0, none⟩) (n + 1) cap) (n + 1) Z u → w.grownBy w' v.ownBlock → (∀ q, v.ownBlock = some q → base ≤ q) → K (a.put o.dst (.slice (some ⟨g, 0, none⟩) (n + 1) cap)) w') : o.wp Tryd.prog a w K Q := by
  obtain ⟨g, cap, w', hr, h2, h3, h4⟩ := run_append_own_dy o.type w base v n Z u hown B c neg nv e hB hx hn hbase
  unfold Oper.wp execOp
  simp only [ho, resolve, invoke, builtin, Sem.run_bind, Sem.run_pure, Result.andThen_ok, List.map_toArray, List.map_cons, List.map_nil, hs, hx', hr]
  exact h g cap w' h2 h3 h4
theorem wpList_append_dy (w : World) {ops : Array Oper} {rest : List Oper} {o : Oper} {a : Act} {Q : Exit → Act → World → Prop} (hgd : o.guard = none) (s x : Operand)
    (ho : o.op = .call { callee := .builtin .append, args := #[s, x], argTypes := #[40, 40] })
    (base : Nat) (v : Value) (n : Nat) (Z : Nat → Int) (u : Int) (hs : a.eval s = v) (hown : OwnD w base v n Z u)
    (B : Nat) (c : Nat) (neg : Bool) (nv : Value) (e : Int) (hx' : a.eval x = .slice (some ⟨B, 0, none⟩) 1 c) (hB : w.heap[B]? = some (dcells neg nv e)) (hx : Dy w neg nv e (Z n) u) (hn : n ≤ 1000) (hbase : base ≤ w.heap.size)
    (h : ∀ g cap w', OwnD w' base (.slice (some ⟨g, 0, none⟩) (n + 1) cap) (n + 1) Z u → w.grownBy w' v.ownBlock → (∀ q, v.ownBlock = some q → base ≤ q) → wpList Tryd.prog ops Q rest (a.put o.dst (.slice (some ⟨g, 0, none⟩) (n + 1) cap)) w') : wpList Tryd.prog ops Q (o :: rest) a w :=
  wpList_plain hgd fun _ hK => wp_append_dy w s x ho base v n Z u hs hown B c neg nv e hx' hB hx hn hbase fun g cap w' h2 h3 h4 => hK _ _ (h g cap w' h2 h3 h4)
theorem step_append_dy (w : World) {ops : Array Oper} {o : Oper} {a : Act} {K : Act → World → Prop} {Q : Exit → Act → World → Prop} {E : Prop} (hgd : o.guard = none) (s x : Operand)
    (ho : o.op = .call { callee := .builtin .append, args := #[s, x], argTypes := #[40, 40] })
    (base : Nat) (v : Value) (n : Nat) (Z : Nat → Int) (u : Int) (hs : a.eval s = v) (hown : OwnD w base v n Z u)
    (B : Nat) (c : Nat) (neg : Bool) (nv : Value) (e : Int) (hx' : a.eval x = .slice (some ⟨B, 0, none⟩) 1 c) (hB : w.heap[B]? = some (dcells neg nv e)) (hx : Dy w neg nv e (Z n) u) (hn : n ≤ 1000) (hbase : base ≤ w.heap.size)
    (h : ∀ g cap w', OwnD w' base (.slice (some ⟨g, 0, none⟩) (n + 1) cap) (n + 1) Z u → w.grownBy w' v.ownBlock → (∀ q, v.ownBlock = some q → base ≤ q) → K (a.put o.dst (.slice (some ⟨g, 0, none⟩) (n + 1) cap)) w') :
    if Region.wanted o (yielded ops a.tmps) = true then Oper.wp Tryd.prog o a w K Q else E := by
  have hw : Region.wanted o (yielded ops a.tmps) = true := by simp [Region.wanted, hgd]
  rw [if_pos hw]
  exact wp_append_dy w s x ho base v n Z u hs hown B c neg nv e hx' hB hx hn hbase h

/-- A list of dyads that a call is handed, or answers. -/
def Dls (W : World) (v : Value) (n : Nat) (Z : Nat → Int) (u : Int) : Prop :=
  n ≤ 1000 ∧ ∃ b cap, v = .slice (some ⟨b, 0, none⟩) n cap ∧ n ≤ cap ∧ b < W.heap.size ∧ ∀ j, j < n → ∃ neg nv e, W.cell? ⟨b, j * 3, none⟩ = some (.bool neg) ∧ W.cell? ⟨b, j * 3 + 1, none⟩ = some nv ∧ W.cell? ⟨b, j * 3 + 2, none⟩ = some (.int .i64 e) ∧ Dy W neg nv e (Z j) u
theorem Dls.below {W W' : World} {v : Value} {n : Nat} {Z : Nat → Int} {u : Int} (h : Dls W v n Z u) (hb : Below W.heap.size W W') : Dls W' v n Z u := by
  obtain ⟨h0, b, cap, e, h1, h2, h3⟩ := h
  refine ⟨h0, b, cap, e, h1, Nat.lt_of_lt_of_le h2 hb.size, fun j hj => ?_⟩
  obtain ⟨neg, nv, ex, c0, c1, c2, d⟩ := h3 j hj
  exact ⟨neg, nv, ex, (hb.cell (p := ⟨b, j * 3, none⟩) h2).trans c0, (hb.cell (p := ⟨b, j * 3 + 1, none⟩) h2).trans c1, (hb.cell (p := ⟨b, j * 3 + 2, none⟩) h2).trans c2, d.below hb (Nat.le_refl _)⟩
theorem Dls.congr {W : World} {v : Value} {k : Nat} {Z Z' : Nat → Int} {g : Int} (h : Dls W v k Z g) (he : ∀ j, j < k → Z j = Z' j) : Dls W v k Z' g := by
  obtain ⟨h0, b, cap, e, h1, h2, h3⟩ := h
  refine ⟨h0, b, cap, e, h1, h2, fun j hj => ?_⟩
  rw [← he j hj]
  exact h3 j hj
theorem OwnD.dls {W : World} {base : Nat} {v : Value} {k : Nat} {Z : Nat → Int} {g : Int} (h : OwnD W base v k Z g) (hk : 0 < k) (hm : k ≤ 1000) : Dls W v k Z g := by
  obtain ⟨l, h1, h2, h3⟩ := h
  refine ⟨hm, ?_⟩
  rcases h2.own.2 with ⟨_, h0⟩ | ⟨q, cap, cur, rfl, hb, hg, hn, hc, hs, ht⟩
  · omega
  · refine ⟨q, cap, rfl, hn, (Array.getElem?_eq_some_iff.1 hg).1, fun j hj => ?_⟩
    have hx : l[j]? = some l[j] := List.getElem?_eq_getElem (by omega)
    obtain ⟨c0, c1, c2⟩ := dlc_at l j _ hx
    rw [Nat.mul_comm 3 j] at c0 c1 c2
    have key : ∀ p y, p < k * 3 → (dlc l)[p]? = some y → W.cell? ⟨q, p, none⟩ = some y := by
      intro p y hp hy
      rw [← ht, List.getElem?_take_of_lt hp, Array.getElem?_toList] at hy
      simp only [World.cell?, hg]
      simp [hy]
    exact ⟨_, _, _, key _ _ (by omega) c0, key _ _ (by omega) c1, key _ _ (by omega) c2, h3 j _ hx⟩
/-- .. behind the element that is laid down to be appended. -/
theorem OwnD.laid {W W' : World} {base : Nat} {v : Value} {k : Nat} {Z : Nat → Int} {g : Int} (h : OwnD W base v k Z g) (hb : Below W.heap.size W W') (o : Obj) : OwnD (W'.alloc o) base v k Z g :=
  h.below (hb.alloc hb.size _)
theorem Dy.laid {W : World} {neg : Bool} {nv : Value} {e z g : Int} (h : Dy W neg nv e z g) (o : Obj) : Dy (W.alloc o) neg nv e z g := h.below ((Below.refl _ W).alloc (Nat.le_refl _) _) (Nat.le_refl _)
theorem below_drew (w : World) : Below w.heap.size w w.drew := (Below.refl _ _).drew
end Go.Proofs.YtbkmpoeaindnaaaDoor.N
