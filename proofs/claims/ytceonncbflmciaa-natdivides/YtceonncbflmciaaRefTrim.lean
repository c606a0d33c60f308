/- levellingref02.Trim and .at: the plain answers' own helpers. -/
import Derived.Test.YtceonncbflmciaaLive
import Derived.Laws.AppendOwnNone
namespace Go.Proofs.Ytceonncbflmciaa
open Go.RowKit Go.Shelf

/-- A slice that holds a number's digits, without zeros at their end. -/
def Res (W : World) (v : Value) (N : Nat) : Prop := ∃ ds, Digs W v ds ∧ norm ds ∧ val ds = N

theorem append_types {P : Program} {w : World} {t tx ty e e' : TypeId} (ht : P.underlying t = some (.slice e)) (htx : P.underlying tx = some (.slice e')) (b : Option Addr) (n c : Nat) (x : Value) :
    (Builtin.append_ #[t, tx] ty #[.slice b n c, x]).run P w = (Builtin.append_ #[t, t] ty #[.slice b n c, x]).run P w := by
  simp [Builtin.append_, run_underlying ht, run_underlying htx]

theorem wpList_append_own2 {P : Program} (w : World) {ops : Array Oper} {rest : List Oper} {o : Oper} {a : Act} {Q : Exit → Act → World → Prop} (hgd : o.guard = none) (s x : Operand) (t tx : TypeId)
    (ho : o.op = .call { callee := .builtin .append, args := #[s, x], argTypes := #[t, tx] })
    (base : Nat) (e : TypeId) (i : TypeInfo) (z : Value) (size bytes : Nat) (ht : P.underlying t = some (.slice e)) (htx : P.underlying tx = some (.slice e)) (hi : P.info? e = some i) (hz : i.zero = some z)
    (hsize : i.size = size) (hby : i.bytes = bytes) (hzs : z.cells.size = size) (hsz : 0 < size)
    (v : Value) (n : Nat) (xs : List Value) (hs : a.eval s = v) (hown : w.ownsRow base e size v n xs)
    (ad : Addr) (m c : Nat) (news : List Value) (hx : a.eval x = .slice (some ad) m c) (hl : news.length = m * size) (hnews : ∀ j u, news[j]? = some u → w.cell? (ad.add j) = some u) (h1 : ∀ u ∈ news, u.oneCell' = true)
    (h63 : n + m ≤ maxLen) (hbytes : (n + m) * bytes ≤ 140737488355328) (hbase : base ≤ w.heap.size)
    (h : ∀ v' w', w'.ownsRow base e size v' (n + m) (xs ++ news) → w.grownBy w' v.ownBlock → wpList P ops Q rest (a.put o.dst v') w') : wpList P ops Q (o :: rest) a w := by
  refine wpList_plain hgd fun _ hK => ?_
  obtain ⟨v', w', hr, h2, h3, _⟩ := run_append_own (P := P) w base t o.type e i z size bytes ht hi hz hsize hby hzs hsz v n xs hown ad m c news hl hnews h1 h63 hbytes hbase
  have hr' : (Builtin.append_ #[t, tx] o.type #[v, .slice (some ad) m c]).run P w = .ok v' w' := by
    rcases hown.2 with ⟨rfl, _⟩ | ⟨g, cap, cur, rfl, _⟩
    · rw [append_types ht htx]; exact hr
    · rw [append_types ht htx]; exact hr
  unfold Oper.wp execOp
  simp only [ho, resolve, invoke, builtin, Sem.run_bind, Sem.run_pure, Result.andThen_ok, List.map_toArray, List.map_cons, List.map_nil, hs, hx, hr']
  exact hK _ _ (h v' w' h2 h3)

set_option maxRecDepth 100000 in
set_option maxHeartbeats 4000000 in
theorem rtrim_nil (w : World) : Calls Try.prog 33 #[.slice none 0 0] w fun e w' => (∃ v, e = .returned v ∧ Digs w' v []) ∧ Below w.heap.size w w' := by
  go_enter Try.func33, Try.ntmps33
  go_wp2_with fail
  go_loopw [3] (fun i wr => i = .int .i64 0 ∧ wr = w) (fun _ _ => 0)
  case atStart => exact ⟨rfl, rfl⟩
  case round =>
    obtain ⟨rfl, rfl⟩ := hrel
    go_wp2_with fail
    go_ret
    exact ⟨⟨_, rfl, small_nil, by simp, .inr ⟨_, _, _, rfl, Nat.le_refl _, fun j hj => by simp at hj⟩⟩, Below.alloc (Below.refl _ _) (Nat.le_refl _) _⟩

theorem built_own (w : World) : (w.alloc (.cells #[] 42)).ownsRow w.heap.size 42 1 (.slice (some ⟨w.heap.size, 0, none⟩) 0 0) 0 [] := by
  refine ⟨rfl, .inr ⟨w.heap.size, 0, #[], rfl, Nat.le_refl _, ?_, Nat.le_refl _, Nat.zero_le _, rfl, rfl⟩⟩
  unfold World.alloc
  simp only [Array.getElem?_push_size]

theorem trim_take {ds : List Nat} {k : Nat} (h0 : ∀ i : Nat, k ≤ i → ds[i]?.getD 0 = 0) (h1 : 0 < k → ds[k - 1]?.getD 0 ≠ 0) : ds.take k = trimL ds := by
  rw [trimL, sizeL_eq ds k h0 h1]

set_option maxRecDepth 100000 in
set_option maxHeartbeats 4000000 in
theorem rtrim_some (b off cap : Nat) (ds : List Nat) (w : World) (hI : Digs w (.slice (some ⟨b, off, none⟩) ds.length cap) ds) :
    Calls Try.prog 33 #[.slice (some ⟨b, off, none⟩) ds.length cap] w fun e w' => (∃ v, e = .returned v ∧ Digs w' v (trimL ds)) ∧ Below w.heap.size w w' := by
  obtain ⟨i0, hi, hz0, hz1, hz2⟩ := info_parts Try.info42
  obtain ⟨hsm, hlen, hh⟩ := hI
  obtain ⟨hcap, hcell⟩ : ds.length ≤ cap ∧ ∀ j, j < ds.length → w.cell? ⟨b, off + j, none⟩ = some (.int .u32 ((ds[j]?.getD 0 : Nat) : Int)) := by
    rcases hh with ⟨e, _⟩ | ⟨b', off', cap', e, h1, h2⟩
    · simp at e
    · simp only [Value.slice.injEq, Option.some.injEq, Addr.mk.injEq] at e
      obtain ⟨⟨rfl, rfl, _⟩, _, rfl⟩ := e
      exact ⟨h1, h2⟩
  clear hh
  go_enter Try.func33, Try.ntmps33
  go_wp2_with fail
  go_loopw [3] (fun i wr => ∃ k : Nat, k ≤ ds.length ∧ i = .int .i64 (k : Int) ∧ wr = w ∧ Hid (∀ i : Nat, k ≤ i → ds[i]?.getD 0 = 0)) (fun i _ => (intOf i).toNat)
  case atStart => exact ⟨ds.length, Nat.le_refl _, rfl, rfl, fun i hi => by simp [List.getElem?_eq_none hi]⟩
  case round =>
    obtain ⟨k, hk, rfl, rfl, HZ⟩ := hrel
    have fin : ∀ v' w', w'.ownsRow wr.heap.size 42 1 v' (0 + k) ([] ++ (ds.take k).map dv) → ds.take k = trimL ds → Digs w' v' (trimL ds) := by
      intro v' w' h ht
      rw [Nat.zero_add, List.nil_append] at h
      have hk2 : (ds.take k).length = k := by simp; omega
      rw [← ht]
      exact Own.digs ⟨small_take _ hsm, by omega, by rw [hk2]; exact h⟩
    have hnews : ∀ j u, ((ds.take k).map dv)[j]? = some u → (wr.alloc (.cells #[] 42)).cell? ((⟨b, off, none⟩ : Addr).add j) = some u := by
      intro j u hu
      have hj : j < k := by
        have := (List.getElem?_eq_some_iff.1 hu).1
        simp at this; omega
      have hc := hcell j (by omega)
      have hb := lt_of_cell hc
      have e1 : ((⟨b, off, none⟩ : Addr).add j) = ⟨b, off + j, none⟩ := by
        unfold Addr.add; split
        · next h => subst h; rfl
        · rfl
      rw [e1, World.cell?_alloc_lt _ _ _ hb, hc, ← hu]
      have : j < ds.length := by omega
      simp [hj, this]
    by_cases h0 : k = 0
    · subst h0
      have ht := trim_take HZ.out (fun h => absurd h (by omega))
      have HT : Hid (ds.take 0 = trimL ds) := ht
      clear ht
      go_wp2_with (at_builtin; refine wpList_append_own2 _ rfl _ _ 23 22 rfl wr.heap.size 42 i0 (.int .u32 0) 1 4 Try.underlying23 Try.underlying22 hi hz0 hz1 hz2 rfl (by decide) _ _ _ rfl (built_own wr) ⟨b, off, none⟩ 0 _ ((ds.take 0).map dv) rfl (by simp) hnews (by simp) (by simp) (by simp) (by simp) ?_; intro v' w1 hown' hgrow)
      go_ret
      exact ⟨⟨_, rfl, fin _ _ hown' HT.out⟩, Below.grown (Below.alloc (Below.refl _ wr) (Nat.le_refl _) _) hgrow (by simp) (fun k e => by cases e; exact Nat.le_refl _)⟩
    · obtain ⟨x, hx⟩ : ∃ x, ds[k - 1]?.getD 0 = x := ⟨_, rfl⟩
      have hc1 := hcell (k - 1) (by omega)
      rw [hx] at hc1
      have HX : Hid (ds[k - 1]?.getD 0 = x) := hx
      clear hx
      by_cases hx0 : x = 0
      · subst hx0
        go_wp2
        go_roundw
        case rel =>
          refine ⟨k - 1, by omega, by go_num, trivial, ?_⟩
          intro i hi
          rcases Nat.eq_or_lt_of_le hi with h | h
          · rw [← h]; exact HX.out
          · exact HZ.out i (by omega)
        case measure => simp [intOf]; omega
      · have ht := trim_take HZ.out (fun _ => by rw [HX.out]; exact hx0)
        have HT : Hid (ds.take k = trimL ds) := ht
        clear ht
        go_wp2_with (at_builtin; refine wpList_append_own2 _ rfl _ _ 23 22 rfl wr.heap.size 42 i0 (.int .u32 0) 1 4 Try.underlying23 Try.underlying22 hi hz0 hz1 hz2 rfl (by decide) _ _ _ rfl (built_own wr) ⟨b, off, none⟩ k _ ((ds.take k).map dv) rfl (by simp; omega) hnews (by intro u hu; obtain ⟨d, _, rfl⟩ := List.mem_map.1 hu; rfl) (by unfold maxLen; omega) (by omega) (by simp) ?_; intro v' w1 hown' hgrow)
        go_ret
        exact ⟨⟨_, rfl, fin _ _ hown' HT.out⟩, Below.grown (Below.alloc (Below.refl _ wr) (Nat.le_refl _) _) hgrow (by simp) (fun k e => by cases e; exact Nat.le_refl _)⟩

/-- levellingref02.Trim. -/
theorem rtrim_c (v : Value) (ds : List Nat) (w : World) (hI : Digs w v ds) : Calls Try.prog 33 #[v] w fun e w' => (∃ v, e = .returned v ∧ Digs w' v (trimL ds)) ∧ Below w.heap.size w w' := by
  obtain ⟨h1, h2, ⟨rfl, rfl⟩ | ⟨b, off, cap, rfl, h3⟩⟩ := hI
  · exact rtrim_nil w
  · exact rtrim_some b off cap ds w ⟨h1, h2, .inr ⟨b, off, cap, rfl, h3⟩⟩

set_option maxHeartbeats 1000000 in
/-- levellingref02.at. -/
theorem at_c (v : Value) (ds : List Nat) (i : Nat) (w : World) (hI : Digs w v ds) : Calls Try.prog 32 #[v, .int .i64 (i : Int)] w fun e w' => e = .returned (.int .u64 ((ds[i]?.getD 0 : Nat) : Int)) ∧ w' = w := by
  by_cases h : i < ds.length
  · obtain ⟨b1, o1, c1, rfl, hb1, hc1⟩ := hI.cell (by omega)
    have hc := hc1 i h
    obtain ⟨x, hx⟩ : ∃ x, ds[i]?.getD 0 = x := ⟨_, rfl⟩
    have hxs : x < 4294967296 := by rw [← hx]; exact small_getD hI.1 i
    rw [hx] at hc ⊢
    clear hx hc1 hI
    go_enter Try.func32, Try.ntmps32
    go_wp2
    go_ret
    exact ⟨rfl, rfl⟩
  · obtain ⟨aa, ca, rfl, hca⟩ := hI.shape
    rw [List.getElem?_eq_none (by omega)]
    go_enter Try.func32, Try.ntmps32
    go_wp2
    go_ret
    exact ⟨rfl, rfl⟩
end Go.Proofs.Ytceonncbflmciaa
