/- nat.Shr. -/
import Derived.Shelf.RegionOpen
import Derived.Deep.RegionHeld3
import Derived.BigQuiet
import Derived.Test.YtdccjlaneobldaaDoorNatOne
import Derived.Laws.AppendOwnNone
import Derived.Deep.QuietTactic
namespace Go.Proofs.YtdccjlaneobldaaDoor.N
open Go.RowKit Go.Shelf
attribute [local go_sem] Oper.semAt_some

theorem pair_int (q d : Nat) (hd : d < 4294967296) : bits BinOp.or IntKind.u64 (IntKind.u64.wrap ((q : Int) * 4294967296)) (d : Int) = ((pairN q d : Nat) : Int) := by
  have h3 : IntKind.u64.wrap ((q : Int) * 4294967296) = ((q * 4294967296 % 18446744073709551616 : Nat) : Int) := by
    rw [IntKind.wrap_u64]; omega
  have h4 : q * 4294967296 % 18446744073709551616 = 2 ^ 32 * (q % 4294967296) := by omega
  rw [h3, h4, u64_or_nat _ _ (by omega) (by omega), ← Nat.two_pow_add_eq_or_of_lt (show d < 2 ^ 32 by omega)]
  unfold pairN
  rw [h4]
theorem dig_int (q p : Nat) : ((q : Int) / 2 ^ p) % 4294967296 = ((digN p q : Nat) : Int) := by
  unfold digN
  rw [Int.natCast_emod, Int.natCast_ediv, Int.natCast_pow]
  rfl

theorem and_int (q k : Nat) (hq : q < 18446744073709551616) : bits BinOp.and IntKind.u64 (q : Int) (IntKind.u64.wrap (IntKind.u64.wrap (2 ^ ((k : Int) % 32).toNat) - 1)) = ((q % 2 ^ (k % 32) : Nat) : Int) := by
  have h1 : ((k : Int) % 32).toNat = k % 32 := by omega
  rw [h1]
  have hp : k % 32 < 32 := Nat.mod_lt _ (by omega)
  generalize k % 32 = p at *
  have h2 : (2 : Nat) ^ p ≤ 2 ^ 32 := Nat.pow_le_pow_right (by omega) (by omega)
  have h3 : 0 < (2 : Nat) ^ p := Nat.pow_pos (by omega)
  have h4 : IntKind.u64.wrap (2 ^ p) = ((2 ^ p : Nat) : Int) := by
    have e : ((2 : Int) ^ p) = ((2 ^ p : Nat) : Int) := by simp
    rw [e, IntKind.wrap_u64]; omega
  have h5 : IntKind.u64.wrap (((2 ^ p : Nat) : Int) - 1) = ((2 ^ p - 1 : Nat) : Int) := by rw [IntKind.wrap_u64]; omega
  rw [h4, h5, u64_and_nat _ _ hq (by omega), Nat.and_two_pow_sub_one_eq_mod]

theorem two_mod (a b p : Nat) (hp : p < 32) : two a b % 2 ^ p = b % 2 ^ p := by
  unfold two
  rw [Nat.add_comm, show (4294967296 : Nat) = 2 ^ p * 2 ^ (32 - p) by rw [← Nat.pow_add, show p + (32 - p) = 32 from by omega], ← Nat.mul_assoc, Nat.mul_comm a, Nat.mul_assoc, Nat.add_mul_mod_self_left]

theorem Num.putObj {W : World} {base : Nat} {v : Value} {N D : Nat} {o : Obj} (o' : Obj) (h : Num W base v N) (hK : W.heap[D]? = some o) (ho : o.isCells = false) : Num (W.putObj D o') base v N := by
  obtain ⟨ds, ⟨h1, h2, h3⟩, h4, h5⟩ := h
  exact ⟨ds, ⟨h1, h2, ownsRow_putObj h3 _ hK ho⟩, h4, h5⟩
end Go.Proofs.YtdccjlaneobldaaDoor.N

/- nat.Root: Newton's steps from above. -/
namespace Go.Proofs.YtdccjlaneobldaaDoor.N
open Go.RowKit Go.Shelf

theorem len_of_lt {ds : List Nat} {k : Nat} (hn : norm ds) (h : val ds < 4294967296 ^ k) : ds.length ≤ k := by
  apply Classical.byContradiction
  intro hc
  have h1 := val_ge hn (by omega)
  have h2 : 4294967296 ^ k ≤ 4294967296 ^ (ds.length - 1) := Nat.pow_le_pow_right (by omega) (by omega)
  omega

/-- A number, opened. -/
theorem Num.open {W : World} {base : Nat} {v : Value} {N : Nat} (h : Num W base v N) : ∃ ds, Digs W v ds ∧ norm ds ∧ val ds = N := by
  obtain ⟨ds, h1, h2, h3⟩ := h
  exact ⟨ds, h1.digs, h2, h3⟩

theorem Digs.unique {W : World} {v : Value} {a b : List Nat} (ha : Digs W v a) (hb : Digs W v b) : a = b := by
  obtain ⟨_, _, ⟨e, rfl⟩ | ⟨b1, o1, c1, e1, _, h1⟩⟩ := ha <;> obtain ⟨_, _, ⟨e', rfl⟩ | ⟨b2, o2, c2, e2, _, h2⟩⟩ := hb
  · rfl
  · rw [e] at e2; simp at e2
  · rw [e'] at e1; simp at e1
  · rw [e1] at e2
    simp only [Value.slice.injEq, Option.some.injEq, Addr.mk.injEq] at e2
    obtain ⟨⟨rfl, rfl, _⟩, hl, _⟩ := e2
    apply list_ext_getD hl
    intro i hi
    have := (h1 i hi).symm.trans (h2 i (by omega))
    simp only [Option.some.injEq, Value.int.injEq, true_and] at this
    exact Int.ofNat.inj this

theorem Num.unique {W : World} {b1 b2 : Nat} {v : Value} {M N : Nat} (h1 : Num W b1 v M) (h2 : Num W b2 v N) : M = N := by
  obtain ⟨d1, a1, _, rfl⟩ := h1.open
  obtain ⟨d2, a2, _, rfl⟩ := h2.open
  rw [a1.unique a2]

theorem newton_next {n r : Nat} (hr : 0 < r) : n < ((r + n / r) / 2 + 1) * ((r + n / r) / 2 + 1) := by
  have h1 : n < r * (n / r + 1) := by
    have := Nat.div_add_mod n r
    have := Nat.mod_lt n hr
    rw [Nat.mul_add, Nat.mul_one]
    omega
  generalize n / r = q at *
  obtain ⟨m, hm⟩ : ∃ m, (r + q) / 2 = m := ⟨_, rfl⟩
  rw [hm]
  have h2 : r + (q + 1) ≤ 2 * (m + 1) := by omega
  have h3 : (r + (q + 1)) * (r + (q + 1)) ≤ (2 * (m + 1)) * (2 * (m + 1)) := Nat.mul_le_mul h2 h2
  have h4 : 4 * (r * (q + 1)) ≤ (r + (q + 1)) * (r + (q + 1)) := by
    generalize q + 1 = s at *
    rcases Nat.le_total r s with h | h
    · obtain ⟨d, rfl⟩ := Nat.exists_eq_add_of_le h
      have : (r + (r + d)) * (r + (r + d)) = 4 * (r * (r + d)) + d * d := by
        simp only [Nat.mul_add, Nat.add_mul, Nat.mul_comm d r]; omega
      omega
    · obtain ⟨d, rfl⟩ := Nat.exists_eq_add_of_le h
      have : (s + d + s) * (s + d + s) = 4 * ((s + d) * s) + d * d := by
        simp only [Nat.mul_add, Nat.add_mul, Nat.mul_comm d s]; omega
      omega
  have h5 : (2 * (m + 1)) * (2 * (m + 1)) = 4 * ((m + 1) * (m + 1)) := by
    rw [Nat.mul_assoc, Nat.mul_left_comm (m + 1) 2, ← Nat.mul_assoc]
  omega

theorem newton_stop {n r : Nat} (h : ¬ (r + n / r) / 2 < r) : r * r ≤ n := by
  have h1 : r ≤ n / r := by omega
  have h2 := Nat.mul_le_mul_left r h1
  have := Nat.mul_div_le n r
  omega

theorem newton_pos {n r : Nat} (hn : 0 < n) (h : n < (r + 1) * (r + 1)) : 0 < r := by
  rcases Nat.eq_zero_or_pos r with rfl | h1
  · simp at h; omega
  · exact h1

theorem root_start (n : Nat) : n < (2 ^ ((bl n + 1) / 2) + 1) * (2 ^ ((bl n + 1) / 2) + 1) := by
  have h1 := lt_bl n
  have h2 : 2 ^ bl n ≤ 2 ^ ((bl n + 1) / 2) * 2 ^ ((bl n + 1) / 2) := by
    rw [← Nat.pow_add]; exact Nat.pow_le_pow_right (by omega) (by omega)
  generalize 2 ^ ((bl n + 1) / 2) = p at *
  have h3 : p * p ≤ (p + 1) * (p + 1) := Nat.mul_le_mul (by omega) (by omega)
  omega

theorem root_first {A : List Nat} (hs : small A) : 2 ^ ((bl (val A) + 1) / 2) < 4294967296 ^ (A.length + 1) := by
  have h1 := val_lt hs
  rw [B_pow] at h1
  have h2 := bl_le h1
  rw [B_pow]
  exact Nat.pow_lt_pow_right (by omega) (by omega)

theorem cell_new (w : World) (v : Value) (t : Nat) : (w.alloc (.cells #[v] t)).cell? ⟨w.heap.size, 0, none⟩ = some v := by
  unfold World.cell? World.alloc
  simp only [Array.getElem?_push_size]
  rfl
theorem Digs.one {W : World} {b off cap : Nat} (h : W.cell? ⟨b, off, none⟩ = some (.int .u32 1)) (hc : 1 ≤ cap) : Digs W (.slice (some ⟨b, off, none⟩) 1 cap) [1] := by
  refine ⟨by intro x hx; simp at hx; omega, by simp, .inr ⟨b, off, cap, rfl, hc, ?_⟩⟩
  intro j hj
  obtain rfl : j = 0 := by simp at hj; omega
  simpa using h
end Go.Proofs.YtdccjlaneobldaaDoor.N

/- levellinglaw02.live: it is true. -/
namespace Go.Proofs.YtdccjlaneobldaaDoor.N
open Go.RowKit Go.Shelf

/-- Slices and the digits that they hold, at one world. -/
def Facts (W : World) (l : List (Value × List Nat)) : Prop := ∀ p ∈ l, Digs W p.1 p.2
theorem Facts.nil (W : World) : Facts W [] := by intro p hp; cases hp
theorem Facts.get {W : World} {l : List (Value × List Nat)} (F : Facts W l) {v : Value} {ds : List Nat} (h : (v, ds) ∈ l) : Digs W v ds := F _ h
theorem Facts.cons {W : World} {l : List (Value × List Nat)} (F : Facts W l) {v : Value} {ds : List Nat} (h : Digs W v ds) : Facts W ((v, ds) :: l) := by
  intro p hp
  rcases List.mem_cons.1 hp with rfl | hp
  · exact h
  · exact F p hp
theorem Facts.below {W W' : World} {l : List (Value × List Nat)} (F : Facts W l) (hb : Below W.heap.size W W') : Facts W' l := fun p hp => (F p hp).below hb (Nat.le_refl _)
theorem Facts.sub {W : World} {l l' : List (Value × List Nat)} (F : Facts W l) (h : ∀ p ∈ l', p ∈ l) : Facts W l' := fun p hp => F p (h p hp)

theorem len_small {ds : List Nat} (k : Nat) (hn : norm ds) (h : val ds < 4294967296 ^ k) (hk : k ≤ 1000) : ds.length ≤ 1000 := Nat.le_trans (len_of_lt hn h) hk

theorem Digs.zero {W : World} {b off cap : Nat} (h : W.cell? ⟨b, off, none⟩ = some (.int .u32 0)) (hc : 1 ≤ cap) : Digs W (.slice (some ⟨b, off, none⟩) 1 cap) [0] := by
  refine ⟨by intro x hx; simp at hx; omega, by simp, .inr ⟨b, off, cap, rfl, hc, ?_⟩⟩
  intro j hj
  obtain rfl : j = 0 := by simp at hj; omega
  simpa using h
theorem norm_01 : norm [0, 1] := rfl
theorem norm_001 : norm [0, 0, 1] := rfl
theorem is_01 {ds : List Nat} (hs : small ds) (hn : norm ds) (hv : val ds = 4294967296) : ds = [0, 1] :=
  val_inj hs (by intro x hx; simp at hx; omega) hn norm_01 (by rw [hv]; rfl)
theorem is_001 {ds : List Nat} (hs : small ds) (hn : norm ds) (hv : val ds = 18446744073709551616) : ds = [0, 0, 1] :=
  val_inj hs (by intro x hx; simp at hx; omega) hn norm_001 (by rw [hv]; rfl)
theorem ord_same {x y z : Nat} (hx : x = z) (hy : y = z) : ordN x y = 0 := by rw [hx, hy]; exact ordN_eq _
theorem bl_64 {x : Nat} (h : x = 18446744073709551615) : bl x = 64 := bl_eq (by omega) (by rw [h]; decide) (by rw [h]; decide)
theorem root_is {R : Nat} (h1 : R * R ≤ 18446744073709551616) (h2 : 18446744073709551616 < (R + 1) * (R + 1)) : R = 4294967296 := by
  rcases Nat.lt_trichotomy R 4294967296 with h | h | h
  · have := Nat.mul_le_mul (show R + 1 ≤ 4294967296 by omega) (show R + 1 ≤ 4294967296 by omega); omega
  · exact h
  · have := Nat.mul_le_mul (show 4294967297 ≤ R by omega) (show 4294967297 ≤ R by omega); omega
end Go.Proofs.YtdccjlaneobldaaDoor.N

/- levellingref02.Trim and .at: the plain answers' own helpers. -/
namespace Go.Proofs.YtdccjlaneobldaaDoor.N
open Go.RowKit Go.Shelf

/-- A slice that holds a number's digits, without zeros at their end. -/
def Res (W : World) (v : Value) (N : Nat) : Prop := ∃ ds, Digs W v ds ∧ norm ds ∧ val ds = N

theorem append_types {P : Program} {w : World} {t tx ty e e' : TypeId} (ht : P.underlying t = some (.slice e)) (htx : P.underlying tx = some (.slice e')) (b : Option Addr) (n c : Nat) (x : Value) :
    (Builtin.append_ #[t, tx] ty #[.slice b n c, x]).run P w = (Builtin.append_ #[t, t] ty #[.slice b n c, x]).run P w := by
  simp [Builtin.append_, run_underlying ht, run_underlying htx]

theorem wpList_append_own2 {P : Program} (w : World) {ops : Array Oper} {rest : List Oper} {o : Oper} {a : Act} {Q : Exit → Act → World → Prop} (hgd : o.guard = none) (s x : Operand) (t tx : TypeId)
    (ho : o.op = .call { callee := .builtin .append, args := #[s, x], argTypes := #[t, tx] })
    (base : Nat) (e : TypeId) (i : TypeInfo) (z : Value) (size bytes : Nat) (ht : P.underlying t = some (.slice e)) (htx : P.underlying tx = some (.slice e)) (hi : P.info? e = some i) (hz : i.zero = some z)
    (hsize : i.size = size) (hby : i.bytes = bytes) (hzs : z.cells.size = size) (hsz : 0 < size)
    (v : Value) (n : Nat) (xs : List Value) (hs : a.eval s = v) (hown : w.ownsRow base e size v n xs)
    (ad : Addr) (m c : Nat) (news : List Value) (hx : a.eval x = .slice (some ad) m c) (hl : news.length = m * size) (hnews : ∀ j u, news[j]? = some u → w.cell? (ad.add j) = some u) (h1 : ∀ u ∈ news, u.oneCell' = true)
    (h63 : n + m ≤ maxLen) (hbytes : (n + m) * bytes ≤ 140737488355328) (hbase : base ≤ w.heap.size)
    (h : ∀ v' w', w'.ownsRow base e size v' (n + m) (xs ++ news) → w.grownBy w' v.ownBlock → wpList P ops Q rest (a.put o.dst v') w') : wpList P ops Q (o :: rest) a w := by
  refine wpList_plain hgd fun _ hK => ?_
  obtain ⟨v', w', hr, h2, h3, _⟩ := run_append_own (P := P) w base t o.type e i z size bytes ht hi hz hsize hby hzs hsz v n xs hown ad m c news hl hnews h1 h63 hbytes hbase
  have hr' : (Builtin.append_ #[t, tx] o.type #[v, .slice (some ad) m c]).run P w = .ok v' w' := by
    rcases hown.2 with ⟨rfl, _⟩ | ⟨g, cap, cur, rfl, _⟩
    · rw [append_types ht htx]; exact hr
    · rw [append_types ht htx]; exact hr
  unfold Oper.wp execOp
  simp only [ho, resolve, invoke, builtin, Sem.run_bind, Sem.run_pure, Result.andThen_ok, List.map_toArray, List.map_cons, List.map_nil, hs, hx, hr']
  exact hK _ _ (h v' w' h2 h3)

set_option maxRecDepth 100000 in
set_option maxHeartbeats 4000000 in
theorem rtrim_nil (w : World) : Calls Tryd.prog 74 #[.slice none 0 0] w fun e w' => (∃ v, e = .returned v ∧ Digs w' v []) ∧ Below w.heap.size w w' := by
  go_enter Tryd.func74, Tryd.ntmps74
  go_wp2_with fail
  go_loopw [3] (fun i wr => i = .int .i64 0 ∧ wr = w) (fun _ _ => 0)
  case atStart => exact ⟨rfl, rfl⟩
  case round =>
    obtain ⟨rfl, rfl⟩ := hrel
    go_wp2_with fail
    go_ret
    exact ⟨⟨_, rfl, small_nil, by simp, .inr ⟨_, _, _, rfl, Nat.le_refl _, fun j hj => by simp at hj⟩⟩, Below.alloc (Below.refl _ _) (Nat.le_refl _) _⟩

theorem built_own (w : World) : (w.alloc (.cells #[] 98)).ownsRow w.heap.size 98 1 (.slice (some ⟨w.heap.size, 0, none⟩) 0 0) 0 [] := by
  refine ⟨rfl, .inr ⟨w.heap.size, 0, #[], rfl, Nat.le_refl _, ?_, Nat.le_refl _, Nat.zero_le _, rfl, rfl⟩⟩
  unfold World.alloc
  simp only [Array.getElem?_push_size]

theorem trim_take {ds : List Nat} {k : Nat} (h0 : ∀ i : Nat, k ≤ i → ds[i]?.getD 0 = 0) (h1 : 0 < k → ds[k - 1]?.getD 0 ≠ 0) : ds.take k = trimL ds := by
  rw [trimL, sizeL_eq ds k h0 h1]

set_option maxRecDepth 100000 in
set_option maxHeartbeats 4000000 in
theorem rtrim_some (b off cap : Nat) (ds : List Nat) (w : World) (hI : Digs w (.slice (some ⟨b, off, none⟩) ds.length cap) ds) :
    Calls Tryd.prog 74 #[.slice (some ⟨b, off, none⟩) ds.length cap] w fun e w' => (∃ v, e = .returned v ∧ Digs w' v (trimL ds)) ∧ Below w.heap.size w w' := by
  obtain ⟨i0, hi, hz0, hz1, hz2⟩ := info_parts Tryd.infoU
  obtain ⟨hsm, hlen, hh⟩ := hI
  obtain ⟨hcap, hcell⟩ : ds.length ≤ cap ∧ ∀ j, j < ds.length → w.cell? ⟨b, off + j, none⟩ = some (.int .u32 ((ds[j]?.getD 0 : Nat) : Int)) := by
    rcases hh with ⟨e, _⟩ | ⟨b', off', cap', e, h1, h2⟩
    · simp at e
    · simp only [Value.slice.injEq, Option.some.injEq, Addr.mk.injEq] at e
      obtain ⟨⟨rfl, rfl, _⟩, _, rfl⟩ := e
      exact ⟨h1, h2⟩
  clear hh
  go_enter Tryd.func74, Tryd.ntmps74
  go_wp2_with fail
  go_loopw [3] (fun i wr => ∃ k : Nat, k ≤ ds.length ∧ i = .int .i64 (k : Int) ∧ wr = w ∧ Hid (∀ i : Nat, k ≤ i → ds[i]?.getD 0 = 0)) (fun i _ => (intOf i).toNat)
  case atStart => exact ⟨ds.length, Nat.le_refl _, rfl, rfl, fun i hi => by simp [List.getElem?_eq_none hi]⟩
  case round =>
    obtain ⟨k, hk, rfl, rfl, HZ⟩ := hrel
    have fin : ∀ v' w', w'.ownsRow wr.heap.size 98 1 v' (0 + k) ([] ++ (ds.take k).map dv) → ds.take k = trimL ds → Digs w' v' (trimL ds) := by
      intro v' w' h ht
      rw [Nat.zero_add, List.nil_append] at h
      have hk2 : (ds.take k).length = k := by simp; omega
      rw [← ht]
      exact Own.digs ⟨small_take _ hsm, by omega, by rw [hk2]; exact h⟩
    have hnews : ∀ j u, ((ds.take k).map dv)[j]? = some u → (wr.alloc (.cells #[] 98)).cell? ((⟨b, off, none⟩ : Addr).add j) = some u := by
      intro j u hu
      have hj : j < k := by
        have := (List.getElem?_eq_some_iff.1 hu).1
        simp at this; omega
      have hc := hcell j (by omega)
      have hb := lt_of_cell hc
      have e1 : ((⟨b, off, none⟩ : Addr).add j) = ⟨b, off + j, none⟩ := by
        unfold Addr.add; split
        · next h => subst h; rfl
        · rfl
      rw [e1, World.cell?_alloc_lt _ _ _ hb, hc, ← hu]
      have : j < ds.length := by omega
      simp [hj, this]
    by_cases h0 : k = 0
    · subst h0
      have ht := trim_take HZ.out (fun h => absurd h (by omega))
      have HT : Hid (ds.take 0 = trimL ds) := ht
      clear ht
      go_wp2_with (at_builtin; refine wpList_append_own2 _ rfl _ _ 58 57 rfl wr.heap.size 98 i0 (.int .u32 0) 1 4 Tryd.underlying58 Tryd.underlying57 hi hz0 hz1 hz2 rfl (by decide) _ _ _ rfl (built_own wr) ⟨b, off, none⟩ 0 _ ((ds.take 0).map dv) rfl (by simp) hnews (by simp) (by simp) (by simp) (by simp) ?_; intro v' w1 hown' hgrow)
      go_ret
      exact ⟨⟨_, rfl, fin _ _ hown' HT.out⟩, Below.grown (Below.alloc (Below.refl _ wr) (Nat.le_refl _) _) hgrow (by simp) (fun k e => by cases e; exact Nat.le_refl _)⟩
    · obtain ⟨x, hx⟩ : ∃ x, ds[k - 1]?.getD 0 = x := ⟨_, rfl⟩
      have hc1 := hcell (k - 1) (by omega)
      rw [hx] at hc1
      have HX : Hid (ds[k - 1]?.getD 0 = x) := hx
      clear hx
      by_cases hx0 : x = 0
      · subst hx0
        go_wp2
        go_roundw
        case rel =>
          refine ⟨k - 1, by omega, by go_num, trivial, ?_⟩
          intro i hi
          rcases Nat.eq_or_lt_of_le hi with h | h
          · rw [← h]; exact HX.out
          · exact HZ.out i (by omega)
        case measure => simp [intOf]; omega
      · have ht := trim_take HZ.out (fun _ => by rw [HX.out]; exact hx0)
        have HT : Hid (ds.take k = trimL ds) := ht
        clear ht
        go_wp2_with (at_builtin; refine wpList_append_own2 _ rfl _ _ 58 57 rfl wr.heap.size 98 i0 (.int .u32 0) 1 4 Tryd.underlying58 Tryd.underlying57 hi hz0 hz1 hz2 rfl (by decide) _ _ _ rfl (built_own wr) ⟨b, off, none⟩ k _ ((ds.take k).map dv) rfl (by simp; omega) hnews (by intro u hu; obtain ⟨d, _, rfl⟩ := List.mem_map.1 hu; rfl) (by unfold maxLen; omega) (by omega) (by simp) ?_; intro v' w1 hown' hgrow)
        go_ret
        exact ⟨⟨_, rfl, fin _ _ hown' HT.out⟩, Below.grown (Below.alloc (Below.refl _ wr) (Nat.le_refl _) _) hgrow (by simp) (fun k e => by cases e; exact Nat.le_refl _)⟩

/-- levellingref02.Trim. -/
theorem rtrim_c (v : Value) (ds : List Nat) (w : World) (hI : Digs w v ds) : Calls Tryd.prog 74 #[v] w fun e w' => (∃ v, e = .returned v ∧ Digs w' v (trimL ds)) ∧ Below w.heap.size w w' := by
  obtain ⟨h1, h2, ⟨rfl, rfl⟩ | ⟨b, off, cap, rfl, h3⟩⟩ := hI
  · exact rtrim_nil w
  · exact rtrim_some b off cap ds w ⟨h1, h2, .inr ⟨b, off, cap, rfl, h3⟩⟩

set_option maxHeartbeats 1000000 in
/-- levellingref02.at. -/
theorem at_c (v : Value) (ds : List Nat) (i : Nat) (w : World) (hI : Digs w v ds) : Calls Tryd.prog 81 #[v, .int .i64 (i : Int)] w fun e w' => e = .returned (.int .u64 ((ds[i]?.getD 0 : Nat) : Int)) ∧ w' = w := by
  by_cases h : i < ds.length
  · obtain ⟨b1, o1, c1, rfl, hb1, hc1⟩ := hI.cell (by omega)
    have hc := hc1 i h
    obtain ⟨x, hx⟩ : ∃ x, ds[i]?.getD 0 = x := ⟨_, rfl⟩
    have hxs : x < 4294967296 := by rw [← hx]; exact small_getD hI.1 i
    rw [hx] at hc ⊢
    clear hx hc1 hI
    go_enter Tryd.func81, Tryd.ntmps81
    go_wp2
    go_ret
    exact ⟨rfl, rfl⟩
  · obtain ⟨aa, ca, rfl, hca⟩ := hI.shape
    rw [List.getElem?_eq_none (by omega)]
    go_enter Tryd.func81, Tryd.ntmps81
    go_wp2
    go_ret
    exact ⟨rfl, rfl⟩
end Go.Proofs.YtdccjlaneobldaaDoor.N

/- levellingref02.Same and .Cmp. -/
namespace Go.Proofs.YtdccjlaneobldaaDoor.N
open Go.RowKit Go.Shelf

set_option maxRecDepth 100000 in
set_option maxHeartbeats 4000000 in
/-- levellingref02.Cmp. -/
theorem rcmp_c (va vb : Value) (A B : List Nat) (w : World) (hA : Digs w va A) (hB : Digs w vb B) :
    Calls Tryd.prog 65 #[va, vb] w fun e w' => e = .returned (.int .i64 (ordN (val A) (val B))) ∧ Below w.heap.size w w' := by
  have HN : Hid (ordN (val (trimL A)) (val (trimL B)) = ordN (val A) (val B)) := by show _ = _; rw [val_trimL, val_trimL]
  have nX := norm_trimL A
  have nY := norm_trimL B
  generalize ordN (val A) (val B) = O at *
  go_enter Tryd.func65, Tryd.ntmps65
  go_wp2_with fail
  refine (rtrim_c _ A _ hA).mono ?_
  rintro e w1 ⟨⟨v1, rfl, hX1⟩, hb1⟩
  go_wp2_with fail
  refine (rtrim_c _ B _ (hB.below hb1 (Nat.le_refl _))).mono ?_
  rintro e w2 ⟨⟨v2, rfl, hY⟩, hb2⟩
  have hX := hX1.below hb2 (Nat.le_refl _)
  have hbw : Below w.heap.size w w2 := hb1.trans (hb2.mono hb1.size)
  clear hb1 hb2 hX1 hA hB
  generalize trimL A = X at *
  generalize trimL B = Y at *
  obtain ⟨aa, ca, rfl, hca⟩ := hX.shape
  obtain ⟨ab, cb, rfl, hcb⟩ := hY.shape
  have hlx := hX.2.1
  have hly := hY.2.1
  have sX := hX.1
  have sY := hY.1
  by_cases hlt : X.length < Y.length
  · have hne : ¬ X.length = Y.length := by omega
    have HO : Hid (O = -1) := by show O = -1; rw [← HN.out, ordN_lt (val_lt_len sX nY hlt)]
    go_wp2
    go_ret
    exact ⟨ret_one HO.out.symm, hbw⟩
  by_cases hgt : Y.length < X.length
  · have hne : ¬ X.length = Y.length := by omega
    have HO : Hid (O = 1) := by show O = 1; rw [← HN.out, ordN_gt (val_lt_len sY nX hgt)]
    go_wp2
    go_ret
    exact ⟨ret_one HO.out.symm, hbw⟩
  have heq : X.length = Y.length := by omega
  have hbq : (((X.length : Int) == (Y.length : Int))) = true := by simp [heq]
  have HE : Hid (X.length = Y.length) := heq
  have hle1 : X.length ≤ Y.length := by omega
  have hle2 : Y.length ≤ X.length := by omega
  clear heq
  go_wp2_with fail
  go_loopw [7] (fun i wr => ∃ k : Nat, k ≤ X.length ∧ i = .int .i64 ((k : Int) - 1) ∧ Hid (∀ j : Nat, k ≤ j → X[j]?.getD 0 = Y[j]?.getD 0) ∧ Below w2.heap.size w2 wr) (fun i _ => (intOf i + 1).toNat)
  case atStart =>
    refine ⟨X.length, Nat.le_refl _, rfl, ?_, Below.refl _ _⟩
    intro j hj
    rw [List.getElem?_eq_none hj, List.getElem?_eq_none (by omega)]
  case round =>
    obtain ⟨k, hk, rfl, HI, hb⟩ := hrel
    rcases k with _ | m
    · have HO : Hid (O = 0) := by
        show O = 0
        rw [← HN.out, list_ext_getD HE.out (fun i _ => HI.out i (Nat.zero_le _)), ordN_eq]
      go_wp2
      go_ret
      exact ⟨ret_one HO.out.symm, hbw.trans (hb.mono hbw.size)⟩
    · rw [show (((m + 1 : Nat) : Int) - 1) = (m : Int) by omega]
      obtain ⟨b1, o1, c1, e1, hb1, hc1⟩ := hX.cell (by omega)
      obtain ⟨rfl, rfl⟩ : aa = some ⟨b1, o1, none⟩ ∧ ca = c1 := by simpa using e1
      obtain ⟨b2, o2, c2, e2, hb2, hc2⟩ := hY.cell (by omega)
      obtain ⟨rfl, rfl⟩ : ab = some ⟨b2, o2, none⟩ ∧ cb = c2 := by simpa using e2
      have hx1 := (hb.cell (p := ⟨b1, o1 + m, none⟩) hb1).trans (hc1 m (by omega))
      have hx2 := (hb.cell (p := ⟨b2, o2 + m, none⟩) hb2).trans (hc2 m (by omega))
      obtain ⟨x, hx⟩ : ∃ x, X[m]?.getD 0 = x := ⟨_, rfl⟩
      obtain ⟨y, hy⟩ : ∃ y, Y[m]?.getD 0 = y := ⟨_, rfl⟩
      rw [hx] at hx1
      rw [hy] at hx2
      have HX : Hid (X[m]?.getD 0 = x) := hx
      have HY : Hid (Y[m]?.getD 0 = y) := hy
      clear hx hy hc1 hc2 e1 e2 hX hY
      by_cases hxy : x < y
      · have HO : Hid (O = -1) := by
          show O = -1
          rw [← HN.out, ordN_lt (val_lt_at (j := m) sX HE.out (by omega) (fun i hi => HI.out i (by omega)) (by rw [HX.out, HY.out]; exact hxy))]
        go_wp2_with fail
        go_quiet (fail)
        all_goals go_wp2
        all_goals go_ret
        exact ⟨ret_one HO.out.symm, hbw.trans ((below_drewN hb _).mono hbw.size)⟩
      by_cases hyx : y < x
      · have HO : Hid (O = 1) := by
          show O = 1
          rw [← HN.out, ordN_gt (val_lt_at (j := m) sY HE.out.symm (by omega) (fun i hi => (HI.out i (by omega)).symm) (by rw [HX.out, HY.out]; exact hyx))]
        go_wp2_with fail
        go_quiet (fail)
        all_goals go_wp2_with fail
        all_goals go_quiet (fail)
        all_goals go_wp2
        all_goals go_ret
        exact ⟨ret_one HO.out.symm, hbw.trans ((below_drewN (below_drewN hb _) _).mono hbw.size)⟩
      · go_wp2_with fail
        go_quiet (fail)
        all_goals go_wp2_with fail
        all_goals go_quiet (fail)
        all_goals go_wp2
        refine ⟨⟨m, by omega, rfl, ?_, below_drewN hb _⟩, by simp [intOf]⟩
        intro j hj
        rcases Nat.eq_or_lt_of_le hj with h | h
        · rw [← h, HX.out, HY.out]; omega
        · exact HI.out j h
end Go.Proofs.YtdccjlaneobldaaDoor.N

/- levellingref02.Add. -/
namespace Go.Proofs.YtdccjlaneobldaaDoor.N
open Go.RowKit Go.Shelf

/-- Behind 'out = append(out, x)', out the call's own. -/
theorem app_fin {w wr w1 : World} {base : Nat} {v v' : Value} {ds : List Nat} {d : Nat} {x : Int} {o : Obj} (h : Own wr base v ds) (hb : Below base w wr) (hn : base ≤ wr.heap.size) (hown : w1.ownsRow base 98 1 v' (ds.length + 1) (ds.map dv ++ [.int .u32 x])) (hgrow : (wr.alloc o).grownBy w1 v.ownBlock) (hx : x = (d : Int)) (hd : d < 4294967296) (hl : ds.length + 1 ≤ 1000000) :
    Own w1 base v' (ds ++ [d]) ∧ Below base w w1 := by
  subst hx
  refine ⟨⟨small_snoc h.1 hd, by simpa using hl, by simpa [dv] using hown⟩, Below.grown (Below.alloc hb hn _) hgrow (by simp; omega) ?_⟩
  intro k e
  rcases h.2.2.2 with ⟨rfl, _⟩ | ⟨g, cap, cur, rfl, hg, _⟩
  · cases e
  · cases e; exact hg

theorem radd_step {A B ds : List Nat} {k c x y : Nat} (hA : A[k]?.getD 0 = x) (hB : B[k]?.getD 0 = y) (hl : ds.length = k) (hv : val ds + 4294967296 ^ k * c = val (A.take k) + val (B.take k)) :
    val (ds ++ [(x + y + c) % 4294967296]) + 4294967296 ^ (k + 1) * ((x + y + c) / 4294967296) = val (A.take (k + 1)) + val (B.take (k + 1)) := by
  rw [val_snoc, val_take_succ, val_take_succ, hl, hA, hB, Nat.pow_succ, Nat.mul_assoc]
  have h := Nat.mod_add_div (x + y + c) 4294967296
  generalize (x + y + c) % 4294967296 = d at *
  generalize (x + y + c) / 4294967296 = q at *
  have h2 : 4294967296 ^ k * (d + 4294967296 * q) = 4294967296 ^ k * (x + y + c) := by rw [h]
  rw [Nat.mul_add, Nat.mul_add, Nat.mul_add] at h2
  omega

theorem radd_end {A B ds : List Nat} {k : Nat} (h1 : A.length ≤ k) (h2 : B.length ≤ k) (hv : val ds + 4294967296 ^ k * 0 = val (A.take k) + val (B.take k)) : val ds = val A + val B := by
  rw [List.take_of_length_le h1, List.take_of_length_le h2] at hv
  omega

set_option maxRecDepth 100000 in
set_option maxHeartbeats 4000000 in
/-- levellingref02.Add. -/
theorem radd_c (va vb : Value) (A B : List Nat) (w : World) (hA : Digs w va A) (hB : Digs w vb B) (hla : A.length ≤ 100000) (hlb : B.length ≤ 100000) :
    Calls Tryd.prog 78 #[va, vb] w fun e w' => (∃ v, e = .returned v ∧ Res w' v (val A + val B)) ∧ Below w.heap.size w w' := by
  obtain ⟨i0, hi, hz0, hz1, hz2⟩ := info_parts Tryd.infoU
  obtain ⟨aa, ca, rfl, hca⟩ := hA.shape
  obtain ⟨ab, cb, rfl, hcb⟩ := hB.shape
  have sA := hA.1
  have sB := hB.1
  obtain ⟨M, hM1, hM2, hM3⟩ : ∃ M, A.length ≤ M ∧ B.length ≤ M ∧ M ≤ 100000 := ⟨max A.length B.length, by omega, by omega, by omega⟩
  go_enter Tryd.func78, Tryd.ntmps78
  go_wp2_with fail
  go_loopw [5, 6, 7] (fun o c i wr => ∃ (k cn : Nat) (ds : List Nat), k ≤ M + 1 ∧ i = .int .i64 (k : Int) ∧ c = .int .u64 (cn : Int) ∧ cn ≤ 1 ∧ Hid (M < k → cn = 0) ∧ Hid (ds.length = k) ∧ Hid (val ds + 4294967296 ^ k * cn = val (A.take k) + val (B.take k)) ∧ Own wr w.heap.size o ds ∧ Below w.heap.size w wr)
    (fun _ _ i _ => M + 2 - (intOf i).toNat)
  case atStart => exact ⟨0, 0, [], by omega, rfl, rfl, by omega, fun h => by omega, rfl, by show _ = _; simp [val], Own.nil _ _, Below.refl _ _⟩
  case round =>
    obtain ⟨k, cn, ds, hk, rfl, rfl, hcn, HC, HD, HV, ho, hb⟩ := hrel
    have hs0 := hb.size
    obtain ⟨x, hx⟩ : ∃ x, A[k]?.getD 0 = x := ⟨_, rfl⟩
    obtain ⟨y, hy⟩ : ∃ y, B[k]?.getD 0 = y := ⟨_, rfl⟩
    have hxs : x < 4294967296 := by rw [← hx]; exact small_getD sA k
    have hys : y < 4294967296 := by rw [← hy]; exact small_getD sB k
    have HX : Hid (A[k]?.getD 0 = x) := hx
    have HY : Hid (B[k]?.getD 0 = y) := hy
    have hdl : ds.length + 1 ≤ 1000000 := by rw [HD.out]; omega
    have hrow := ho.2.2
    clear hx hy
    have hA' := hA.below hb (Nat.le_refl _)
    have hB' := hB.below hb (Nat.le_refl _)
    by_cases hex : (k < A.length ∨ (¬ k < A.length ∧ k < B.length)) ∨ (¬ k < A.length ∧ ¬ k < B.length ∧ 0 < cn)
    · have hk2 : k ≤ M := by
        apply Classical.byContradiction
        intro h
        have := HC.out (by omega)
        omega
      rcases hex with (h | ⟨h, h'⟩) | ⟨h, h', h''⟩
      all_goals
        go_wp2_with fail
        refine (at_c _ A k _ hA').mono ?_
        rintro e w5 ⟨rfl, rfl⟩
        rw [HX.out]
        go_wp2_with fail
        refine (at_c _ B k _ hB').mono ?_
        rintro e w5 ⟨rfl, rfl⟩
        rw [HY.out]
        go_wp2_with (at_builtin; refine wpList_append_own _ rfl _ _ 57 rfl w.heap.size 98 i0 (.int .u32 0) 1 4 Tryd.underlying57 hi hz0 hz1 hz2 rfl (by decide) _ _ _ rfl (hrow.alloc _) ⟨w5.heap.size, 0, none⟩ 1 1 [_] rfl rfl (cell_one_new _ _ _) (by simp [Value.oneCell']) (by unfold maxLen; omega) (by omega) (by simp; omega) ?_; intro v' w1 hown' hgrow _)
        go_roundw
        case rel =>
          obtain ⟨hO, hB2⟩ := app_fin (d := (x + y + cn) % 4294967296) ho hb hs0 hown' hgrow (by omega) (Nat.mod_lt _ (by omega)) hdl
          refine ⟨k + 1, (x + y + cn) / 4294967296, _, by omega, by go_num, congrArg (Value.int .u64) (by omega), by omega, ?_, ?_, radd_step HX.out HY.out HD.out HV.out, hO, hB2⟩
          · intro hMk
            have h1 := HX.out
            have h2 := HY.out
            rw [List.getElem?_eq_none (by omega)] at h1 h2
            simp only [Option.getD_none] at h1 h2
            omega
          · show _ = _
            rw [List.length_append, HD.out]; rfl
        case measure => simp [intOf]; omega
    · obtain rfl : cn = 0 := by omega
      have hk1 : ¬ k < A.length := by omega
      have hk3 : ¬ k < B.length := by omega
      clear hex
      go_wp2_with fail
      refine (rtrim_c _ ds _ ho.digs).mono ?_
      rintro e w6 ⟨⟨v6, rfl, h6⟩, hb6⟩
      go_wp2
      go_ret
      exact ⟨⟨_, rfl, trimL ds, h6, norm_trimL _, by rw [val_trimL]; exact radd_end (by omega) (by omega) HV.out⟩, hb.trans (hb6.mono hs0)⟩
end Go.Proofs.YtdccjlaneobldaaDoor.N

/- levellingref02.Sub. -/
namespace Go.Proofs.YtdccjlaneobldaaDoor.N
open Go.RowKit Go.Shelf

theorem rsub_step {X Y ds : List Nat} {k c x y : Nat} (hX : X[k]?.getD 0 = x) (hY : Y[k]?.getD 0 = y) (hx : x < 4294967296) (hy : y < 4294967296) (hc : c ≤ 1) (hl : ds.length = k) (hv : val ds + val (Y.take k) = val (X.take k) + 4294967296 ^ k * c) :
    val (ds ++ [(x + 4294967296 - y - c) % 4294967296]) + val (Y.take (k + 1)) = val (X.take (k + 1)) + 4294967296 ^ (k + 1) * (1 - (x + 4294967296 - y - c) / 4294967296) := by
  have hb : (x + 4294967296 - y - c) % 4294967296 + y + c = x + 4294967296 * (1 - (x + 4294967296 - y - c) / 4294967296) := by omega
  rw [val_snoc, val_take_succ, val_take_succ, hl, hX, hY, Nat.pow_succ, Nat.mul_assoc]
  generalize (x + 4294967296 - y - c) % 4294967296 = d at *
  generalize 1 - (x + 4294967296 - y - c) / 4294967296 = q at *
  have h2 : 4294967296 ^ k * (d + y + c) = 4294967296 ^ k * (x + 4294967296 * q) := by rw [hb]
  rw [Nat.mul_add, Nat.mul_add, Nat.mul_add] at h2
  omega

theorem rsub_end {X Y ds : List Nat} {k c : Nat} (hsd : small ds) (hl : ds.length = k) (h1 : X.length ≤ k) (h2 : Y.length ≤ k) (hle : val Y ≤ val X) (hc : c ≤ 1) (hv : val ds + val (Y.take k) = val (X.take k) + 4294967296 ^ k * c) : val ds = val X - val Y := by
  have h3 := val_lt hsd
  rw [hl] at h3
  rw [List.take_of_length_le h1, List.take_of_length_le h2] at hv
  rcases Nat.le_one_iff_eq_zero_or_eq_one.1 hc with rfl | rfl
  · omega
  · omega

set_option maxRecDepth 100000 in
set_option maxHeartbeats 4000000 in
theorem rsub_no (va vb : Value) (A B : List Nat) (w : World) (hA : Digs w va A) (hB : Digs w vb B) (hlt : val A < val B) :
    Calls Tryd.prog 80 #[va, vb] w fun e w' => e = .returned (.tuple #[.slice none 0 0, .bool false]) ∧ Below w.heap.size w w' := by
  have ho : ordN (val A) (val B) < 0 := by rw [ordN_lt hlt]; omega
  obtain ⟨aa, ca, rfl, hca⟩ := hA.shape
  obtain ⟨ab, cb, rfl, hcb⟩ := hB.shape
  go_enter Tryd.func80, Tryd.ntmps80
  go_wp2_with fail
  refine (rcmp_c _ _ A B _ hA hB).mono ?_
  rintro e w' ⟨rfl, hb⟩
  go_wp2
  go_ret2
  exact ⟨rfl, hb⟩

set_option maxRecDepth 100000 in
set_option maxHeartbeats 4000000 in
theorem rsub_yes (va vb : Value) (A B : List Nat) (w : World) (hA : Digs w va A) (hB : Digs w vb B) (hla : A.length ≤ 100000) (hlb : B.length ≤ 100000) (hge : val B ≤ val A) :
    Calls Tryd.prog 80 #[va, vb] w fun e w' => (∃ v, e = .returned (.tuple #[v, .bool true]) ∧ Res w' v (val A - val B)) ∧ Below w.heap.size w w' := by
  have ho : ¬ ordN (val A) (val B) < 0 := by
    rcases Nat.lt_or_eq_of_le hge with h | h
    · rw [ordN_gt h]; omega
    · rw [h, ordN_eq]; omega
  obtain ⟨i0, hi, hz0, hz1, hz2⟩ := info_parts Tryd.infoU
  obtain ⟨aa, ca, rfl, hca⟩ := hA.shape
  obtain ⟨ab, cb, rfl, hcb⟩ := hB.shape
  have sA := hA.1
  have sB := hB.1
  obtain ⟨M, hM1, hM2, hM3, hM4⟩ : ∃ M, A.length ≤ M ∧ B.length ≤ M ∧ M ≤ 100000 ∧ Hid (M = A.length ∨ M = B.length) := ⟨max A.length B.length, by omega, by omega, by omega, by show _ ∨ _; omega⟩
  go_enter Tryd.func80, Tryd.ntmps80
  go_wp2_with fail
  refine (rcmp_c _ _ A B _ hA hB).mono ?_
  rintro e w0 ⟨rfl, hb0⟩
  have hA0 := hA.below hb0 (Nat.le_refl _)
  have hB0 := hB.below hb0 (Nat.le_refl _)
  clear hA hB
  go_wp2_with fail
  go_loopw [6, 7, 8] (fun o c i wr => ∃ (k cn : Nat) (ds : List Nat), k ≤ M ∧ i = .int .i64 (k : Int) ∧ c = .int .u64 (cn : Int) ∧ cn ≤ 1 ∧ Hid (ds.length = k) ∧ Hid (val ds + val (B.take k) = val (A.take k) + 4294967296 ^ k * cn) ∧ Own wr w0.heap.size o ds ∧ Below w0.heap.size w0 wr)
    (fun _ _ i _ => M - (intOf i).toNat)
  case atStart => exact ⟨0, 0, [], by omega, rfl, rfl, by omega, rfl, by show _ = _; simp [val], Own.nil _ _, Below.refl _ _⟩
  case round =>
    obtain ⟨k, cn, ds, hk, rfl, rfl, hcn, HD, HV, ho1, hb⟩ := hrel
    have hs0 := hb.size
    obtain ⟨x, hx⟩ : ∃ x, A[k]?.getD 0 = x := ⟨_, rfl⟩
    obtain ⟨y, hy⟩ : ∃ y, B[k]?.getD 0 = y := ⟨_, rfl⟩
    have hxs : x < 4294967296 := by rw [← hx]; exact small_getD sA k
    have hys : y < 4294967296 := by rw [← hy]; exact small_getD sB k
    have HX : Hid (A[k]?.getD 0 = x) := hx
    have HY : Hid (B[k]?.getD 0 = y) := hy
    have hdl : ds.length + 1 ≤ 1000000 := by rw [HD.out]; omega
    have hrow := ho1.2.2
    clear hx hy
    have hA' := hA0.below hb (Nat.le_refl _)
    have hB' := hB0.below hb (Nat.le_refl _)
    by_cases hex : k < A.length ∨ (¬ k < A.length ∧ k < B.length)
    · rcases hex with h | ⟨h, h'⟩
      all_goals
        go_wp2_with fail
        refine (at_c _ A k _ hA').mono ?_
        rintro e w5 ⟨rfl, rfl⟩
        rw [HX.out]
        go_wp2_with fail
        refine (at_c _ B k _ hB').mono ?_
        rintro e w5 ⟨rfl, rfl⟩
        rw [HY.out]
        go_wp2_with (at_builtin; refine wpList_append_own _ rfl _ _ 57 rfl w0.heap.size 98 i0 (.int .u32 0) 1 4 Tryd.underlying57 hi hz0 hz1 hz2 rfl (by decide) _ _ _ rfl (hrow.alloc _) ⟨w5.heap.size, 0, none⟩ 1 1 [_] rfl rfl (cell_one_new _ _ _) (by simp [Value.oneCell']) (by unfold maxLen; omega) (by omega) (by simp; omega) ?_; intro v' w1 hown' hgrow _)
        go_roundw
        case rel =>
          obtain ⟨hO, hB2⟩ := app_fin (d := (x + 4294967296 - y - cn) % 4294967296) ho1 hb hs0 hown' hgrow (by omega) (Nat.mod_lt _ (by omega)) hdl
          refine ⟨k + 1, 1 - (x + 4294967296 - y - cn) / 4294967296, _, by omega, by go_num, congrArg (Value.int .u64) (by omega), by omega, ?_, rsub_step HX.out HY.out hxs hys hcn HD.out HV.out, hO, hB2⟩
          show _ = _
          rw [List.length_append, HD.out]; rfl
        case measure => simp [intOf]; omega
    · have hk1 : ¬ k < A.length := by omega
      have hk3 : ¬ k < B.length := by omega
      clear hex
      go_wp2_with fail
      refine (rtrim_c _ ds _ ho1.digs).mono ?_
      rintro e w6 ⟨⟨v6, rfl, h6⟩, hb6⟩
      go_wp2
      go_ret2
      have hs1 := hb0.size
      exact ⟨⟨_, rfl, trimL ds, h6, norm_trimL _, by rw [val_trimL]; exact rsub_end ho1.1 HD.out (by omega) (by omega) hge hcn HV.out⟩, (hb0.trans (hb.mono hs1)).trans (hb6.mono (by omega))⟩
end Go.Proofs.YtdccjlaneobldaaDoor.N

/- levellingref02.Shl. -/
namespace Go.Proofs.YtdccjlaneobldaaDoor.N
open Go.RowKit Go.Shelf

theorem made_own (w : World) (n m : Nat) (hnm : n ≤ m) (hm : m ≤ 1000000) :
    Own (w.alloc (.cells (madeCells #[Value.int .u32 0] m) 98)) w.heap.size (.slice (some ⟨w.heap.size, 0, none⟩) n m) (List.replicate n 0) := by
  have hc : (madeCells #[Value.int .u32 0] m).toList = List.replicate m (dv 0) := by
    rw [toList_madeCells_one]; simp [dv]
  refine ⟨small_replicate n, by simp; omega, ?_⟩
  refine ⟨by simp, .inr ⟨w.heap.size, m, _, by simp, Nat.le_refl _, World.alloc_heap_new w _, by simpa using hnm, by unfold maxLen; omega, ?_, ?_⟩⟩
  · rw [← Array.length_toList, hc]; simp
  · rw [hc]; simp [List.take_replicate, Nat.min_eq_left hnm]

theorem shl_wrap (p x c : Nat) (hp : p < 32) (hx : x < 4294967296) (hc : c < 2 ^ p) : IntKind.u64.wrap (IntKind.u64.wrap ((x : Int) * 2 ^ p) + (c : Int)) = ((x * 2 ^ p + c : Nat) : Int) ∧ x * 2 ^ p + c < 18446744073709551616 := by
  have h1 : (2 : Nat) ^ p ≤ 2 ^ 32 := Nat.pow_le_pow_right (by omega) (by omega)
  have h2 : x * 2 ^ p ≤ 4294967295 * 2 ^ p := Nat.mul_le_mul_right _ (by omega)
  have h4 : x * 2 ^ p + c < 18446744073709551616 := by omega
  have e : ((x : Int) * 2 ^ p) = ((x * 2 ^ p : Nat) : Int) := by simp
  refine ⟨?_, h4⟩
  rw [e, IntKind.wrap_u64, IntKind.wrap_u64]
  omega

set_option maxHeartbeats 1000000 in
theorem rshl_no (va : Value) (A : List Nat) (k : Int) (w : World) (hA : Digs w va A) (hk : k < 0 ∨ 100000 < k) :
    Calls Tryd.prog 66 #[va, .int .i64 k] w fun e w' => e = .returned (.slice none 0 0) ∧ w' = w := by
  obtain ⟨aa, ca, rfl, hca⟩ := hA.shape
  rcases hk with hk | hk
  · go_enter Tryd.func66, Tryd.ntmps66
    go_wp2
    go_ret
    exact ⟨rfl, rfl⟩
  · have hk2 : ¬ k < 0 := by omega
    go_enter Tryd.func66, Tryd.ntmps66
    go_wp2
    go_ret
    exact ⟨rfl, rfl⟩

set_option maxRecDepth 100000 in
set_option maxHeartbeats 4000000 in
/-- levellingref02.Shl. -/
theorem rshl_c (va : Value) (A : List Nat) (k : Nat) (w : World) (hA : Digs w va A) (hla : A.length ≤ 100000) (hk : k ≤ 100000) :
    Calls Tryd.prog 66 #[va, .int .i64 (k : Int)] w fun e w' => (∃ v, e = .returned v ∧ Res w' v (val A * 2 ^ k)) ∧ Below w.heap.size w w' := by
  obtain ⟨i0, hi, hz0, hz1, hz2⟩ := info_parts Tryd.infoU
  obtain ⟨aa, ca, rfl, hca⟩ := hA.shape
  have sA := hA.1
  have HN : Hid (val A * 2 ^ k = val A * 2 ^ k) := rfl
  obtain ⟨N, hN⟩ : ∃ N, val A * 2 ^ k = N := ⟨_, rfl⟩
  rw [hN]
  rw [hN] at HN
  have HN2 : Hid (val A * 2 ^ k = N) := hN
  clear hN HN
  go_enter Tryd.func66, Tryd.ntmps66
  go_wp2_with (at_make; refine wpList_make_lc _ rfl _ _ 57 rfl 98 i0 (.int .u32 0) Tryd.underlying57 hi hz0 hz1 _ _ _ _ (k / 32) (k / 32) rfl rfl (by omega) (by omega) (by omega) (by rw [hz2]; omega) (by omega) ?_)
  have ho := made_own w (k / 32) (k / 32) (by omega) (by omega)
  have hbel : Below w.heap.size w (w.alloc (.cells (madeCells #[Value.int .u32 0] (k / 32)) 98)) := Below.alloc (Below.refl _ _) (Nat.le_refl _) _
  generalize w.alloc (.cells (madeCells #[Value.int .u32 0] (k / 32)) 98) = w4 at *
  go_loopw [5, 6, 7] (fun o c i wr => ∃ (j cn : Nat) (ds : List Nat), j ≤ A.length ∧ i = .int .i64 (j : Int) ∧ c = .int .u64 (cn : Int) ∧ Hid (cn < 2 ^ (k % 32)) ∧ Hid (ds.length = k / 32 + j) ∧ Hid (val ds + 4294967296 ^ (k / 32 + j) * cn = val (A.take j) * 2 ^ k) ∧ Own wr w.heap.size o ds ∧ Below w.heap.size w wr)
    (fun _ _ i _ => A.length - (intOf i).toNat)
  case atStart => exact ⟨0, 0, _, Nat.zero_le _, rfl, rfl, Nat.pow_pos (by omega), by show _ = _; simp, by show _ = _; simp [val, val_replicate], ho, hbel⟩
  case round =>
    obtain ⟨j, cn, ds, hj, rfl, rfl, HC, HD, HV, hor, hbr⟩ := hrel
    have hdl : ds.length + 1 ≤ 1000000 := by rw [HD.out]; omega
    have hs0 := hbr.size
    have hrow := hor.2.2
    have hcs : cn < 4294967296 := Nat.lt_of_lt_of_le HC.out (Nat.le_trans (Nat.pow_le_pow_right (by omega) (show k % 32 ≤ 32 by omega)) (by omega))
    by_cases hjl : j < A.length
    · obtain ⟨b1, o1, c1, e1, hb1, hc1⟩ := hA.cell (by omega)
      obtain ⟨rfl, rfl⟩ : aa = some ⟨b1, o1, none⟩ ∧ ca = c1 := by simpa using e1
      have hx1 := (hbr.cell (p := ⟨b1, o1 + j, none⟩) hb1).trans (hc1 j hjl)
      obtain ⟨x, hx⟩ : ∃ x, A[j]?.getD 0 = x := ⟨_, rfl⟩
      have hxs : x < 4294967296 := by rw [← hx]; exact small_getD sA j
      rw [hx] at hx1
      have HX : Hid (A[j]?.getD 0 = x) := hx
      clear hx hc1 e1
      have hw := shl_wrap (k % 32) x cn (by omega) hxs HC.out
      have HS := up_step HD.out HX.out HV.out
      have HC2 := up_carry hxs HC.out
      have HS' : Hid _ := HS
      have HC' : Hid _ := HC2
      clear HS HC2
      have hSb : x * 2 ^ (k % 32) + cn < 18446744073709551616 := hw.2
      replace hw := hw.1
      generalize x * 2 ^ (k % 32) + cn = S at *
      go_wp2_with (at_builtin; refine wpList_append_own _ rfl _ _ 57 rfl w.heap.size 98 i0 (.int .u32 0) 1 4 Tryd.underlying57 hi hz0 hz1 hz2 rfl (by decide) _ _ _ rfl (hrow.alloc _) ⟨wr.heap.size, 0, none⟩ 1 1 [_] rfl rfl (cell_one_new _ _ _) (by simp [Value.oneCell']) (by unfold maxLen; omega) (by omega) (by simp; omega) ?_; intro v' w1 hown' hgrow _)
      go_roundw
      case rel =>
        obtain ⟨hO, hB2⟩ := app_fin (d := S % 4294967296) hor hbr hs0 hown' hgrow (by omega) (Nat.mod_lt _ (by omega)) hdl
        refine ⟨j + 1, S / 4294967296, _, by omega, by go_num, congrArg (Value.int .u64) (by omega), HC'.out, ?_, HS'.out, hO, hB2⟩
        show _ = _
        rw [List.length_append, HD.out]; rfl
      case measure => simp [intOf]; omega
    · obtain rfl : j = A.length := by omega
      go_wp2_with (at_builtin; refine wpList_append_own _ rfl _ _ 57 rfl w.heap.size 98 i0 (.int .u32 0) 1 4 Tryd.underlying57 hi hz0 hz1 hz2 rfl (by decide) _ _ _ rfl (hrow.alloc _) ⟨wr.heap.size, 0, none⟩ 1 1 [_] rfl rfl (cell_one_new _ _ _) (by simp [Value.oneCell']) (by unfold maxLen; omega) (by omega) (by simp; omega) ?_; intro v' w1 hown' hgrow _)
      obtain ⟨hO, hB2⟩ := app_fin (d := cn) hor hbr hs0 hown' hgrow (by omega) hcs hdl
      refine (rtrim_c _ (ds ++ [cn]) _ hO.digs).mono ?_
      rintro e w6 ⟨⟨v6, rfl, h6⟩, hb6⟩
      go_wp2
      go_ret
      refine ⟨⟨_, rfl, _, h6, norm_trimL _, ?_⟩, hB2.trans (hb6.mono hB2.size)⟩
      have hv := HV.out
      rw [List.take_length] at hv
      rw [val_trimL, val_snoc, HD.out, hv, HN2.out]
end Go.Proofs.YtdccjlaneobldaaDoor.N

/- levellingref02.Mul. -/
namespace Go.Proofs.YtdccjlaneobldaaDoor.N
open Go.RowKit Go.Shelf

theorem mulStep' {L M N : List Nat} {k c x y m : Nat} (hl : L.length = k) (hm : M[k]?.getD 0 = m) (hy : N[k]?.getD 0 = y) (hv : val L + 4294967296 ^ k * c = val (M.take k) + x * val (N.take k)) :
    val (L ++ [(x * y + m + c) % 4294967296]) + 4294967296 ^ (k + 1) * ((x * y + m + c) / 4294967296) = val (M.take (k + 1)) + x * val (N.take (k + 1)) := by
  rw [show x * y + m + c = c + (x * y + m) by omega]
  exact mulStep hl hm hy hv
theorem sum_int' (c x y m s : Nat) (h : s = x * y + m + c) : (x : Int) * (y : Int) + (m : Int) + (c : Int) = (s : Int) := by
  rw [h]; simp

set_option maxRecDepth 100000 in
set_option maxHeartbeats 8000000 in
/-- levellingref02.Mul. -/
theorem rmul_c (va vb : Value) (A B : List Nat) (w : World) (hA : Digs w va A) (hB : Digs w vb B) (hla : A.length ≤ 100000) (hlb : B.length ≤ 100000) :
    Calls Tryd.prog 60 #[va, vb] w fun e w' => (∃ v, e = .returned v ∧ Res w' v (val A * val B)) ∧ Below w.heap.size w w' := by
  obtain ⟨i0, hi, hz0, hz1, hz2⟩ := info_parts Tryd.infoU
  obtain ⟨aa, ca, rfl, hca⟩ := hA.shape
  obtain ⟨ab, cb, rfl, hcb⟩ := hB.shape
  have sA := hA.1
  have sB := hB.1
  obtain ⟨N, hN⟩ : ∃ N, val A * val B = N := ⟨_, rfl⟩
  rw [hN]
  have HN : Hid (val A * val B = N) := hN
  clear hN
  go_enter Tryd.func60, Tryd.ntmps60
  go_wp2_with (at_make; refine wpList_make_lc _ rfl _ _ 57 rfl 98 i0 (.int .u32 0) Tryd.underlying57 hi hz0 hz1 _ _ _ _ (A.length + B.length) (A.length + B.length) rfl rfl (by omega) (by omega) (by omega) (by rw [hz2]; omega) (by omega) ?_)
  have ho := made_own w (A.length + B.length) (A.length + B.length) (by omega) (by omega)
  have hbel : Below w.heap.size w (w.alloc (.cells (madeCells #[Value.int .u32 0] (A.length + B.length)) 98)) := Below.alloc (Below.refl _ _) (Nat.le_refl _) _
  generalize w.alloc (.cells (madeCells #[Value.int .u32 0] (A.length + B.length)) 98) = w4 at *
  go_loopw [6] (fun i wr => ∃ (k : Nat) (ds : List Nat), k ≤ A.length ∧ i = .int .i64 (k : Int) ∧ Hid (ds.length = A.length + B.length) ∧ Hid (val ds = val (A.take k) * val B) ∧ Hid (∀ j : Nat, k + B.length ≤ j → ds[j]?.getD 0 = 0) ∧ Own wr w.heap.size (.slice (some ⟨w.heap.size, 0, none⟩) (A.length + B.length) (A.length + B.length)) ds ∧ Below w.heap.size w wr)
    (fun i _ => A.length - (intOf i).toNat)
  case atStart => exact ⟨0, _, Nat.zero_le _, rfl, by show _ = _; simp, by show _ = _; simp [val, val_replicate], fun j _ => by rw [List.getElem?_replicate]; split <;> rfl, ho, hbel⟩
  case round =>
    obtain ⟨k, ds, hk, rfl, HD, HV, HZ, hor, hbr⟩ := hrel
    clear ho hbel
    by_cases hkl : k < A.length
    · obtain ⟨b1, o1, c1, e1, hb1, hc1⟩ := hA.cell (by omega)
      obtain ⟨rfl, rfl⟩ : aa = some ⟨b1, o1, none⟩ ∧ ca = c1 := by simpa using e1
      have hx1 := hc1 k hkl
      obtain ⟨x, hx⟩ : ∃ x, A[k]?.getD 0 = x := ⟨_, rfl⟩
      have hxs : x < 4294967296 := by rw [← hx]; exact small_getD sA k
      rw [hx] at hx1
      have HX : Hid (A[k]?.getD 0 = x) := hx
      have HX1 : Hid (w.cell? ⟨b1, o1 + k, none⟩ = some (.int .u32 (x : Int))) := hx1
      have hkd : Hid (k + B.length + 1 ≤ ds.length) := by show _ ≤ _; rw [HD.out]; omega
      have htk : Hid ((ds.take k).length = k) := by show _ = _; have := hkd.out; simp; omega
      have hor3 := hor
      rw [three_parts ds k (B.length + 1)] at hor3
      have hML : Hid (((ds.drop k).take (B.length + 1)).length = B.length + 1) := by show _ = _; have := hkd.out; simp; omega
      clear hx hx1 hc1 e1 hor
      go_wp2_with fail
      generalize hP : ds.take k = P at *
      generalize hM : (ds.drop k).take (B.length + 1) = M at *
      generalize hQ : ds.drop (k + (B.length + 1)) = Q at *
      have HP : Hid (ds.take k = P) := hP
      have HM0 : Hid ((ds.drop k).take (B.length + 1) = M) := hM
      have HQ0 : Hid (ds.drop (k + (B.length + 1)) = Q) := hQ
      clear hP hM hQ
      go_loopw [7, 8] (fun c i wi => ∃ (j cc : Nat) (L : List Nat), j ≤ B.length ∧ i = .int .i64 (j : Int) ∧ c = .int .u64 (cc : Int) ∧ cc < 4294967296 ∧ Hid (L.length = j) ∧ Hid (val L + 4294967296 ^ j * cc = val (M.take j) + x * val (B.take j)) ∧ Own wi w.heap.size (.slice (some ⟨w.heap.size, 0, none⟩) (A.length + B.length) (A.length + B.length)) (P ++ (L ++ M.drop j) ++ Q) ∧ Below w.heap.size w wi)
        (fun _ i _ => B.length - (intOf i).toNat)
      case atStart => exact ⟨0, 0, [], Nat.zero_le _, rfl, rfl, by omega, rfl, by show _ = _; simp [val], by simpa using hor3, hbr⟩
      case round =>
        obtain ⟨j, cc, L, hj, rfl, rfl, hcc, HL, HW, hoi, hbi⟩ := hrel
        have hx1 := (hbi.cell (p := ⟨b1, o1 + k, none⟩) hb1).trans HX1.out
        obtain ⟨m, hm⟩ : ∃ m, M[j]?.getD 0 = m := ⟨_, rfl⟩
        have hjM : j < M.length := by rw [hML.out]; omega
        have hdrop : M.drop j = m :: M.drop (j + 1) := by rw [List.drop_eq_getElem_cons hjM, ← hm]; simp [hjM]
        rw [hdrop] at hoi
        have hms : m < 4294967296 := hoi.1 m (by simp)
        have hcell := hoi.cellAt (P.length + L.length) (by simp)
        rw [get_mid] at hcell
        have hfr := hoi.frozenAt (P.length + L.length)
        rw [HL.out, htk.out] at hcell hfr
        have HM : Hid (M[j]?.getD 0 = m) := hm
        clear hm hdrop hjM
        by_cases hjl : j < B.length
        · obtain ⟨b2, o2, c2, e2, hb2, hc2⟩ := hB.cell (by omega)
          obtain ⟨rfl, rfl⟩ : ab = some ⟨b2, o2, none⟩ ∧ cb = c2 := by simpa using e2
          have hy1 := (hbi.cell (p := ⟨b2, o2 + j, none⟩) hb2).trans (hc2 j hjl)
          obtain ⟨y, hy⟩ : ∃ y, B[j]?.getD 0 = y := ⟨_, rfl⟩
          have hys : y < 4294967296 := by rw [← hy]; exact small_getD sB j
          rw [hy] at hy1
          have HY : Hid (B[j]?.getD 0 = y) := hy
          obtain ⟨hp1, hp0⟩ := mul_int x y hxs hys
          clear hy hc2 e2
          go_wp2_with fail
          go_quiet (fail)
          all_goals go_wp2
          obtain ⟨t, ht⟩ : ∃ t, t = x * y + m + cc := ⟨_, rfl⟩
          rw [sum_int' cc x y m t ht, int_mod, int_div]
          have htb : t / 4294967296 < 4294967296 := by have := mul_bound x y hxs hys; omega
          have hst := (hoi.below (below_drewN (Below.refl wr.heap.size wr) nq) (Nat.le_refl _)).store (P.length + L.length) (t % 4294967296) (Nat.mod_lt _ (by omega))
          rw [set_mid] at hst
          rw [htk.out, HL.out] at hst
          exact ⟨⟨j + 1, t / 4294967296, L ++ [t % 4294967296], by omega, by go_num, rfl, htb, by show _ = _; rw [List.length_append, HL.out]; rfl, by show _ = _; rw [ht]; exact mulStep' HL.out HM.out HY.out HW.out, hst, (below_drewN hbi nq).setCell (p := ⟨w.heap.size, k + j, none⟩) (Nat.le_refl _) _⟩, by simp [intOf]; omega⟩
        · obtain rfl : j = B.length := by omega
          have hd2 : M.drop (B.length + 1) = [] := List.drop_eq_nil_of_le (by rw [hML.out]; omega)
          rw [hd2] at hoi
          clear hd2
          go_wp2
          have hst := hoi.store (P.length + L.length) cc hcc
          rw [set_mid] at hst
          rw [htk.out, HL.out, List.append_nil] at hst
          have e1 := HP.out
          have e2 := HM0.out
          have e3 := HQ0.out
          subst e1 e2 e3
          obtain ⟨r1, r2, r3⟩ := mul_round (M' := L ++ [cc]) hkd.out HX.out HV.out HZ.out (by rw [List.length_append, HL.out, hML.out]; rfl) (by
            intro h0
            have hv := HW.out
            have hMt := val_take_succ ((ds.drop k).take (B.length + 1)) B.length
            rw [List.take_of_length_le (by rw [hML.out]; omega), h0] at hMt
            rw [List.take_length] at hv
            rw [val_snoc, HL.out, hv, hMt]
            omega)
          exact ⟨⟨k + 1, _, by omega, by go_num, r1.trans HD.out, r2, r3, hst, hbi.setCell (p := ⟨w.heap.size, k + B.length, none⟩) (Nat.le_refl _) _⟩, by simp [intOf]; omega⟩
    · obtain rfl : k = A.length := by omega
      go_wp2_with fail
      refine (rtrim_c _ ds _ hor.digs).mono ?_
      rintro e w6 ⟨⟨v6, rfl, h6⟩, hb6⟩
      go_wp2
      go_ret
      have hv := HV.out
      rw [List.take_length] at hv
      exact ⟨⟨_, rfl, _, h6, norm_trimL _, by rw [val_trimL, hv, HN.out]⟩, hbr.trans (hb6.mono hbr.size)⟩
end Go.Proofs.YtdccjlaneobldaaDoor.N

/- levellingref02.Shr. -/
namespace Go.Proofs.YtdccjlaneobldaaDoor.N
open Go.RowKit Go.Shelf

set_option maxHeartbeats 1000000 in
theorem rshr_no (va : Value) (A : List Nat) (k : Int) (w : World) (hA : Digs w va A) (hk : k < 0 ∨ 100000 < k) :
    Calls Tryd.prog 75 #[va, .int .i64 k] w fun e w' => e = .returned (.tuple #[.slice none 0 0, .bool false]) ∧ w' = w := by
  obtain ⟨aa, ca, rfl, hca⟩ := hA.shape
  rcases hk with hk | hk
  · go_enter Tryd.func75, Tryd.ntmps75
    go_wp2
    go_ret2
    exact ⟨rfl, rfl⟩
  · have hk2 : ¬ k < 0 := by omega
    go_enter Tryd.func75, Tryd.ntmps75
    go_wp2
    go_ret2
    exact ⟨rfl, rfl⟩

theorem take_snoc_getD {l : List Nat} {j : Nat} (h : j < l.length) : l.take (j + 1) = l.take j ++ [l[j]?.getD 0] := by
  rw [List.take_succ_eq_append_getElem h]; simp [h]

theorem shr_wrap (p x y : Nat) : (((x : Int) * 4294967296 + (y : Int)) / 2 ^ p) = ((two x y / 2 ^ p : Nat) : Int) := by
  unfold two
  simp

set_option maxRecDepth 100000 in
set_option maxHeartbeats 4000000 in
/-- levellingref02.Shr. -/
theorem rshr_c (va : Value) (A : List Nat) (k : Nat) (w : World) (hA : Digs w va A) (hla : A.length ≤ 50000) (hk : k ≤ 100000) :
    Calls Tryd.prog 75 #[va, .int .i64 (k : Int)] w fun e w' => (∃ v, e = .returned (.tuple #[v, .bool (decide (val A % 2 ^ k = 0))]) ∧ Res w' v (val A / 2 ^ k)) ∧ Below w.heap.size w w' := by
  obtain ⟨i0, hi, hz0, hz1, hz2⟩ := info_parts Tryd.infoU
  obtain ⟨aa, ca, rfl, hca⟩ := hA.shape
  have sA := hA.1
  obtain ⟨E, hE⟩ : ∃ E, decide (val A % 2 ^ k = 0) = E := ⟨_, rfl⟩
  obtain ⟨N, hN⟩ : ∃ N, val A / 2 ^ k = N := ⟨_, rfl⟩
  rw [hE, hN]
  have HE : Hid (decide (val A % 2 ^ k = 0) = E) := hE
  have HN : Hid (val A / 2 ^ k = N) := hN
  clear hE hN
  obtain ⟨Z, hZ⟩ : ∃ Z, shrL (k % 32) (A.drop (k / 32)) = Z := ⟨_, rfl⟩
  have hZl : Z.length = A.length - k / 32 := by rw [← hZ, shrL_length]; simp
  have HZ : Hid (shrL (k % 32) (A.drop (k / 32)) = Z) := hZ
  have HZL : Hid (Z.length = A.length - k / 32) := hZl
  clear hZ hZl
  go_enter Tryd.func75, Tryd.ntmps75
  go_wp2_with fail
  go_loopw [6, 7] (fun o i wr => ∃ (j : Nat) (ds : List Nat), (j = 0 ∨ k / 32 + j ≤ A.length) ∧ i = .int .i64 ((k / 32 + j : Nat) : Int) ∧ Hid (ds = Z.take j) ∧ Own wr w.heap.size o ds ∧ Below w.heap.size w wr)
    (fun _ i _ => A.length - (intOf i).toNat)
  case atStart => exact ⟨0, [], .inl rfl, by go_num, rfl, Own.nil _ _, Below.refl _ _⟩
  case round =>
    obtain ⟨j, ds, hj, rfl, HD, hor, hbr⟩ := hrel
    have hs0 := hbr.size
    have hrow := hor.2.2
    by_cases hjl : k / 32 + j < A.length
    · obtain ⟨b1, o1, c1, e1, hb1, hc1⟩ := hA.cell (by omega)
      obtain ⟨rfl, rfl⟩ : aa = some ⟨b1, o1, none⟩ ∧ ca = c1 := by simpa using e1
      have hdl : ds.length + 1 ≤ 1000000 := by rw [HD.out]; simp; omega
      have hx1 := (hbr.cell (p := ⟨b1, o1 + (k / 32 + j), none⟩) hb1).trans (hc1 _ hjl)
      obtain ⟨x, hx⟩ : ∃ x, A[k / 32 + j]?.getD 0 = x := ⟨_, rfl⟩
      obtain ⟨y, hy⟩ : ∃ y, A[k / 32 + j + 1]?.getD 0 = y := ⟨_, rfl⟩
      have hxs : x < 4294967296 := by rw [← hx]; exact small_getD sA _
      have hys : y < 4294967296 := by rw [← hy]; exact small_getD sA _
      rw [hx] at hx1
      have HX : Hid (A[k / 32 + j]?.getD 0 = x) := hx
      have HY : Hid (A[k / 32 + j + 1]?.getD 0 = y) := hy
      have hA' := hA.below hbr (Nat.le_refl _)
      have hat : ∀ W : World, W.heap = wr.heap → Calls Tryd.prog 81 #[.slice (some ⟨b1, o1, none⟩) A.length ca, .int .i64 (((k / 32 + j : Nat) : Int) + 1)] W fun e w' => e = .returned (.int .u64 (y : Int)) ∧ w' = W := by
        intro W hW
        rw [← hy, show (((k / 32 + j : Nat) : Int) + 1) = ((k / 32 + j + 1 : Nat) : Int) by omega]
        refine at_c _ A _ W ⟨hA'.1, hA'.2.1, ?_⟩
        rcases hA'.2.2 with h | ⟨b, o, c, e, h1, h2⟩
        · exact .inl h
        · refine .inr ⟨b, o, c, e, h1, fun j hj => ?_⟩
          have := h2 j hj
          unfold World.cell? at this ⊢
          rw [hW]; exact this
      have HAT : Hid (∀ W : World, W.heap = wr.heap → Calls Tryd.prog 81 #[.slice (some ⟨b1, o1, none⟩) A.length ca, .int .i64 (((k / 32 + j : Nat) : Int) + 1)] W fun e w' => e = .returned (.int .u64 (y : Int)) ∧ w' = W) := hat
      clear hx hy hc1 e1 hat hA'
      have hZj : j < Z.length := by rw [HZL.out]; omega
      have HG : Hid (Z[j]?.getD 0 = two y x / 2 ^ (k % 32) % 4294967296) := by
        show _ = _
        rw [← HZ.out, shrL_get _ _ _ (by rw [← shrL_length (k % 32), HZ.out]; exact hZj), getD_drop, getD_drop, ← Nat.add_assoc, HX.out, HY.out]
        rfl
      have HZj : Hid (j < Z.length) := hZj
      clear hZj
      generalize hij : k / 32 + j = i at *
      have HIJ : Hid (k / 32 + j = i) := hij
      clear hij
      go_wp2_with fail
      go_quiet ((go_at_call 81; refine Calls.quiet_of_same (HAT.out _ ?_); simp))
      rw [shr_wrap]
      generalize two y x / 2 ^ (k % 32) = T at *
      have hbd := below_drewN (Below.refl wr.heap.size wr) nq
      have hor2 := hor.below hbd (Nat.le_refl _)
      have hbr2 := below_drewN hbr nq
      have hrow2 := hor2.2.2
      have hs2 := hbr2.size
      generalize wr.drewN nq = wd at *
      go_wp2_with (at_builtin; refine wpList_append_own _ rfl _ _ 57 rfl w.heap.size 98 i0 (.int .u32 0) 1 4 Tryd.underlying57 hi hz0 hz1 hz2 rfl (by decide) _ _ _ rfl (hrow2.alloc _) ⟨wd.heap.size, 0, none⟩ 1 1 [_] rfl rfl (cell_one_new _ _ _) (by simp [Value.oneCell']) (by unfold maxLen; omega) (by omega) (by simp; omega) ?_; intro v' w1 hown' hgrow _)
      go_roundw
      case rel =>
        obtain ⟨hO, hB2⟩ := app_fin (d := T % 4294967296) hor2 hbr2 hs2 hown' hgrow (by omega) (Nat.mod_lt _ (by omega)) hdl
        have h1 := HIJ.out
        refine ⟨j + 1, _, .inr (by omega), congrArg (Value.int .i64) (by omega), ?_, hO, hB2⟩
        show _ = _
        rw [take_snoc_getD HZj.out, HG.out, HD.out]
      case measure => simp [intOf]; omega
    · have hjl2 : A.length ≤ k / 32 + j := by omega
      have hds : ds = Z := by rw [HD.out, List.take_of_length_le]; rw [HZL.out]; omega
      subst hds
      have HVZ : Hid (val ds = N) := by
        show _ = _
        rw [← HZ.out, ← HN.out]
        by_cases hkl : k / 32 ≤ A.length
        · exact shr_val A k sA hkl
        · rw [List.drop_eq_nil_of_le (by omega)]
          have h1 := val_lt sA
          have h2 : 4294967296 ^ A.length ≤ 2 ^ k := by rw [B_pow]; exact Nat.pow_le_pow_right (by omega) (by omega)
          rw [Nat.div_eq_of_lt (by omega)]
          rfl
      have hdl : ds.length ≤ 100000 := by rw [HZL.out]; omega
      have hA' := hA.below hbr (Nat.le_refl _)
      have HB : Hid ((ordN (N * 2 ^ k) (val A) == 0) = E) := by
        show _ = _
        have h1 := Nat.div_add_mod (val A) (2 ^ k)
        rw [← HE.out, ← HN.out, Nat.mul_comm]
        by_cases h0 : val A % 2 ^ k = 0
        · rw [show 2 ^ k * (val A / 2 ^ k) = val A by omega, ordN_eq]; simp [h0]
        · rw [ordN_lt (by omega)]; simp [h0]
      generalize k / 32 + j = i at *
      go_wp2_with fail
      refine (rtrim_c _ ds _ hor.digs).mono ?_
      rintro e w6 ⟨⟨v6, rfl, h6⟩, hb6⟩
      go_wp2_with fail
      refine (rshl_c _ (trimL ds) k _ h6 (by rw [length_trimL]; have := sizeL_le ds; omega) hk).mono ?_
      rintro e w7 ⟨⟨v7, rfl, d7, h7, n7, e7'⟩, hb7⟩
      have e7 : Hid (val d7 = N * 2 ^ k) := by show _ = _; rw [e7', val_trimL, HVZ.out]
      clear e7'
      have hA7 := (hA'.below hb6 (Nat.le_refl _)).below hb7 (Nat.le_refl _)
      go_wp2_with fail
      refine (rcmp_c _ _ d7 A _ h7 hA7).mono ?_
      rintro e w8 ⟨rfl, hb8⟩
      rw [e7.out]
      have hbe := HB.out
      generalize ordN (N * 2 ^ k) (val A) = O at *
      go_wp2
      go_ret2
      have hs6 := hb6.size
      have hs7 := hb7.size
      have hbb : Below wr.heap.size wr w8 := (hb6.trans (hb7.mono hs6)).trans (hb8.mono (by omega))
      refine ⟨⟨_, ?_, trimL ds, (h6.below hb7 (Nat.le_refl _)).below hb8 (Nat.le_refl _), norm_trimL _, by rw [val_trimL, HVZ.out]⟩, hbr.trans (hbb.mono hs0)⟩
      rw [← hbe]
      rfl
end Go.Proofs.YtdccjlaneobldaaDoor.N

/- nat's functions and the plain answers' ones, each by one contract for all inputs that NatCounts gives them. -/
namespace Go.Proofs.YtdccjlaneobldaaDoor.N
open Go.RowKit Go.Shelf

theorem Num.res {W : World} {base : Nat} {v : Value} {N : Nat} (h : Num W base v N) : Res W v N := h.open
theorem Res.nil (W : World) : Res W (.slice none 0 0) 0 := ⟨[], Digs.nil _, norm_nil, rfl⟩

theorem rsub_any (va vb : Value) (A B : List Nat) (w : World) (hA : Digs w va A) (hB : Digs w vb B) (hla : A.length ≤ 100000) (hlb : B.length ≤ 100000) :
    Calls Tryd.prog 80 #[va, vb] w fun e w' => (∃ v, e = .returned (.tuple #[v, .bool (decide (val B ≤ val A))]) ∧ Res w' v (val A - val B)) ∧ Below w.heap.size w w' := by
  by_cases h : val B ≤ val A
  · refine (rsub_yes va vb A B w hA hB hla hlb h).mono ?_
    rintro e w' ⟨⟨v, rfl, hn⟩, hb⟩
    exact ⟨⟨v, by rw [decide_eq_true h], hn⟩, hb⟩
  · refine (rsub_no va vb A B w hA hB (by omega)).mono ?_
    rintro e w' ⟨rfl, hb⟩
    exact ⟨⟨_, by rw [decide_eq_false h], by rw [Nat.sub_eq_zero_of_le (by omega)]; exact Res.nil _⟩, hb⟩

/-- What a shift answers; outside of 0 .. 100000: 0. -/
def shrN (k : Int) (a : Nat) : Nat := if 0 ≤ k ∧ k ≤ 100000 then a / 2 ^ k.toNat else 0
def shrB (k : Int) (a : Nat) : Bool := if 0 ≤ k ∧ k ≤ 100000 then decide (a % 2 ^ k.toNat = 0) else false
def shlN (k : Int) (a : Nat) : Nat := if 0 ≤ k ∧ k ≤ 100000 then a * 2 ^ k.toNat else 0

theorem rshr_any (va : Value) (A : List Nat) (k : Int) (w : World) (hA : Digs w va A) (hla : A.length ≤ 50000) :
    Calls Tryd.prog 75 #[va, .int .i64 k] w fun e w' => (∃ v, e = .returned (.tuple #[v, .bool (shrB k (val A))]) ∧ Res w' v (shrN k (val A))) ∧ Below w.heap.size w w' := by
  unfold shrB shrN
  by_cases h : 0 ≤ k ∧ k ≤ 100000
  · rw [if_pos h, if_pos h]
    obtain ⟨n, rfl⟩ := Int.eq_ofNat_of_zero_le h.1
    rw [Int.toNat_natCast]
    exact rshr_c va A n w hA hla (by omega)
  · rw [if_neg h, if_neg h]
    refine (rshr_no va A k w hA (by omega)).mono ?_
    rintro e w' ⟨rfl, rfl⟩
    exact ⟨⟨_, rfl, Res.nil _⟩, Below.refl _ _⟩
theorem rshl_any (va : Value) (A : List Nat) (k : Int) (w : World) (hA : Digs w va A) (hla : A.length ≤ 50000) :
    Calls Tryd.prog 66 #[va, .int .i64 k] w fun e w' => (∃ v, e = .returned v ∧ Res w' v (shlN k (val A))) ∧ Below w.heap.size w w' := by
  unfold shlN
  by_cases h : 0 ≤ k ∧ k ≤ 100000
  · rw [if_pos h]
    obtain ⟨n, rfl⟩ := Int.eq_ofNat_of_zero_le h.1
    rw [Int.toNat_natCast]
    exact rshl_c va A n w hA (by omega) (by omega)
  · rw [if_neg h]
    refine (rshl_no va A k w hA (by omega)).mono ?_
    rintro e w' ⟨rfl, rfl⟩
    exact ⟨⟨_, rfl, Res.nil _⟩, Below.refl _ _⟩

/-- Two slices that hold one number, without zeros at their end, hold the same digits. -/
theorem same_digs {W1 W2 : World} {v1 v2 : Value} {a b : List Nat} {N : Nat} (h1 : Digs W1 v1 a) (n1 : norm a) (e1 : val a = N) (h2 : Digs W2 v2 b) (n2 : norm b) (e2 : val b = N) : b = a :=
  val_inj h2.1 h1.1 n2 n1 (e2.trans e1.symm)
end Go.Proofs.YtdccjlaneobldaaDoor.N

/- levellingref02.Len, and .From at 1. -/
namespace Go.Proofs.YtdccjlaneobldaaDoor.N
open Go.RowKit Go.Shelf

theorem bl_half {t : Nat} (h : 0 < t) : bl t = bl (t / 2) + 1 := by
  by_cases h1 : t / 2 = 0
  · obtain rfl : t = 1 := by omega
    rfl
  · apply bl_eq (by omega)
    · have h2 := bl_ge h1
      have h3 := bl_pos h1
      have h4 : 2 ^ (bl (t / 2) + 1 - 1) = 2 ^ (bl (t / 2) - 1) * 2 := by rw [← Nat.pow_succ]; congr 1; omega
      omega
    · have h2 := lt_bl (t / 2)
      rw [Nat.pow_succ]
      omega

theorem bl_top (X : List Nat) (hs : small X) (hn : norm X) (h0 : 0 < X.length) : bl (val X) = 32 * (X.length - 1) + bl (X[X.length - 1]?.getD 0) := by
  have hv := val_top X h0
  have hlow : val (X.take (X.length - 1)) < 4294967296 ^ (X.length - 1) := by
    have := val_lt (small_take (X.length - 1) hs)
    rwa [List.length_take, show min (X.length - 1) X.length = X.length - 1 from by omega] at this
  have ht := sizeL_top X (by rw [hn]; exact h0)
  rw [hn] at ht
  generalize X[X.length - 1]?.getD 0 = d at *
  generalize val (X.take (X.length - 1)) = lo at *
  have a := lt_bl d
  have b := bl_ge ht
  have c := bl_pos ht
  apply bl_eq (by omega)
  · rw [hv, show 32 * (X.length - 1) + bl d - 1 = 32 * (X.length - 1) + (bl d - 1) from by omega, Nat.pow_add, ← B_pow]
    exact Nat.le_trans (Nat.mul_le_mul_left _ b) (Nat.le_add_left _ _)
  · rw [hv, Nat.pow_add, ← B_pow]
    have h2 := Nat.mul_le_mul_left (4294967296 ^ (X.length - 1)) (show d + 1 ≤ 2 ^ bl d from a)
    rw [Nat.mul_add, Nat.mul_one] at h2
    omega

set_option maxRecDepth 100000 in
set_option maxHeartbeats 4000000 in
theorem rlen_c (va : Value) (A : List Nat) (w : World) (hA : Digs w va A) :
    Calls Tryd.prog 77 #[va] w fun e w' => e = .returned (.int .i64 (bl (val A) : Nat)) ∧ Below w.heap.size w w' := by
  have nX := norm_trimL A
  obtain ⟨L, hL⟩ : ∃ L, bl (val A) = L := ⟨_, rfl⟩
  rw [hL]
  have HL : Hid (bl (val (trimL A)) = L) := by show _ = _; rw [val_trimL]; exact hL
  clear hL
  go_enter Tryd.func77, Tryd.ntmps77
  go_wp2_with fail
  refine (rtrim_c _ A _ hA).mono ?_
  rintro e w1 ⟨⟨v1, rfl, hX⟩, hb⟩
  clear hA
  generalize trimL A = X at *
  obtain ⟨aa, ca, rfl, hca⟩ := hX.shape
  have hlx := hX.2.1
  by_cases h0 : X.length = 0
  · have h0' : ((X.length : Int) == 0) = true := by simp [h0]
    have HO : Hid (L = 0) := by show L = 0; rw [← HL.out, List.length_eq_zero_iff.1 h0]; rfl
    clear h0
    go_wp2
    go_ret
    exact ⟨ret_one (by rw [HO.out]; rfl), hb⟩
  · have h0' : ((X.length : Int) == 0) = false := by simp [h0]
    obtain ⟨b1, o1, c1, e1, hb1, hc1⟩ := hX.cell (by omega)
    obtain ⟨rfl, rfl⟩ : aa = some ⟨b1, o1, none⟩ ∧ ca = c1 := by simpa using e1
    have hx1 := hc1 (X.length - 1) (by omega)
    have HT : Hid (L = 32 * (X.length - 1) + bl (X[X.length - 1]?.getD 0)) := by show L = _; rw [← HL.out]; exact bl_top X hX.1 nX (by omega)
    have hts := small_getD hX.1 (X.length - 1)
    generalize X[X.length - 1]?.getD 0 = t0 at *
    have hbt : bl t0 ≤ 32 := bl_le (by omega)
    clear hc1 e1
    go_wp2_with fail
    go_loopw [4, 5] (fun k t wr => ∃ (c s : Nat), k = .int .i64 ((32 * (X.length - 1) + c : Nat) : Int) ∧ t = .int .u32 (s : Int) ∧ s < 4294967296 ∧ c ≤ 32 ∧ Hid (c + bl s = bl t0) ∧ wr = w1)
      (fun _ t _ => (intOf t).toNat)
    case atStart => exact ⟨0, t0, congrArg (Value.int .i64) (by omega), rfl, hts, by omega, Nat.zero_add _, rfl⟩
    case round =>
      obtain ⟨c, s, rfl, rfl, hs, hc, HC, rfl⟩ := hrel
      have hcn := HC.out
      by_cases hs0 : 0 < s
      · have HH : Hid (bl s = bl (s / 2) + 1) := bl_half hs0
        have hcc : c + 1 ≤ 32 := by have := HH.out; omega
        clear hcn
        generalize hg : 32 * (X.length - 1) + c = g at *
        have HG : Hid (32 * (X.length - 1) + c = g) := hg
        have hgl : g ≤ 100000000 := by omega
        clear hg
        go_wp2
        go_roundw
        case rel =>
          have h1 := HG.out
          exact ⟨c + 1, s / 2, congrArg (Value.int .i64) (by omega), congrArg (Value.int .u32) (by omega), by omega, hcc, by show _ = _; have := HC.out; have := HH.out; omega, trivial⟩
        case measure => simp [intOf]; omega
      · obtain rfl : s = 0 := by omega
        have HF : Hid (32 * (X.length - 1) + c = L) := by show _ = _; rw [HT.out]; have := HC.out; rw [bl_zero] at this; omega
        clear hcn
        rw [HF.out]
        go_wp2
        go_ret
        exact ⟨rfl, hb⟩

theorem digs_two (w : World) : Digs (w.alloc (.cells #[.int .u32 1, .int .u32 0] 98)) (.slice (some ⟨w.heap.size, 0, none⟩) 2 2) [1, 0] := by
  refine ⟨by intro x hx; simp at hx; omega, by simp, .inr ⟨_, _, _, rfl, Nat.le_refl _, ?_⟩⟩
  intro j hj
  unfold World.cell? World.alloc
  simp only [Array.getElem?_push_size]
  rcases j with _ | _ | j
  · rfl
  · rfl
  · exact absurd hj (by simp)

set_option maxHeartbeats 1000000 in
theorem rfrom_one (w : World) : Calls Tryd.prog 58 #[.int .u64 1] w fun e w' => (∃ v, e = .returned v ∧ Res w' v 1) ∧ Below w.heap.size w w' := by
  go_enter Tryd.func58, Tryd.ntmps58
  go_wp2_with fail
  have h2 : Digs (w.alloc (.cells #[.int .u32 1, .int .u32 0] 98)) (.slice (some ⟨w.heap.size, 0, none⟩) 2 2) [1, 0] := digs_two w
  have hb : Below w.heap.size w (w.alloc (.cells #[.int .u32 1, .int .u32 0] 98)) := Below.alloc (Below.refl _ _) (Nat.le_refl _) _
  generalize w.alloc (.cells #[.int .u32 1, .int .u32 0] 98) = w2 at *
  refine (rtrim_c _ [1, 0] _ h2).mono ?_
  rintro e w3 ⟨⟨v3, rfl, h3⟩, hb3⟩
  go_wp2
  go_ret
  exact ⟨⟨_, rfl, [1], h3, rfl, rfl⟩, hb.trans (hb3.mono hb.size)⟩
end Go.Proofs.YtdccjlaneobldaaDoor.N

/- levellingref02.Div: bit by bit. -/
namespace Go.Proofs.YtdccjlaneobldaaDoor.N
open Go.RowKit Go.Shelf

/-- A number's bit, by its digits. -/
theorem digit_bit (A : List Nat) (m : Nat) (hs : small A) (hm : m / 32 < A.length) : val A / 2 ^ m % 2 = A[m / 32]?.getD 0 / 2 ^ (m % 32) % 2 := by
  have h1 := val_split A (m / 32)
  have hl : (A.take (m / 32)).length = m / 32 := by simp; omega
  have h2 := val_lt (small_take (m / 32) hs)
  rw [hl] at h1 h2
  have h3 : val A / 4294967296 ^ (m / 32) = val (A.drop (m / 32)) := by
    rw [h1, Nat.add_mul_div_left _ _ (Nat.pow_pos (by omega)), Nat.div_eq_of_lt h2, Nat.zero_add]
  have h4 := head_mod (A.drop (m / 32)) (small_drop _ hs)
  rw [getD_drop, Nat.add_zero] at h4
  rw [h4, pow_split m, ← Nat.div_div_eq_div_mul, h3]
  generalize val (A.drop (m / 32)) = V
  have hd : 2 ^ (m % 32) * 2 ∣ 4294967296 := ⟨2 ^ (31 - m % 32), by rw [← Nat.pow_succ, ← Nat.pow_add, show m % 32 + 1 + (31 - m % 32) = 32 by omega]⟩
  rw [← Nat.mod_mul_right_div_self, ← Nat.mod_mul_right_div_self, Nat.mod_mod_of_dvd _ hd]

/-- One more bit. -/
theorem half_bit (a m : Nat) : a / 2 ^ m = a / 2 ^ (m + 1) * 2 ^ 1 + a / 2 ^ m % 2 := by
  rw [Nat.pow_succ, ← Nat.div_div_eq_div_mul]; omega

theorem div_yes {T D b : Nat} (h0 : 0 < D) (hb : b ≤ 1) (h : D ≤ T % D * 2 + b) : (T * 2 + b) / D = T / D * 2 + 1 ∧ (T * 2 + b) % D = T % D * 2 + b - D := by
  have h1 := Nat.div_add_mod T D
  have h2 := Nat.mod_lt T h0
  have e : T * 2 + b = (T % D * 2 + b - D) + D * (T / D * 2 + 1) := by
    rw [Nat.mul_add, Nat.mul_one, ← Nat.mul_assoc]; omega
  rw [e, Nat.add_mul_div_left _ _ h0, Nat.add_mul_mod_self_left, Nat.div_eq_of_lt (by omega), Nat.mod_eq_of_lt (by omega)]
  omega
theorem div_not {T D b : Nat} (h0 : 0 < D) (h : ¬ D ≤ T % D * 2 + b) : (T * 2 + b) / D = T / D * 2 ∧ (T * 2 + b) % D = T % D * 2 + b := by
  have h1 := Nat.div_add_mod T D
  have e : T * 2 + b = (T % D * 2 + b) + D * (T / D * 2) := by
    rw [← Nat.mul_assoc]; omega
  rw [e, Nat.add_mul_div_left _ _ h0, Nat.add_mul_mod_self_left, Nat.div_eq_of_lt (by omega), Nat.mod_eq_of_lt (by omega)]
  omega
end Go.Proofs.YtdccjlaneobldaaDoor.N

/- levellingref02.Root: bit by bit. -/
namespace Go.Proofs.YtdccjlaneobldaaDoor.N
open Go.RowKit Go.Shelf

theorem root_unique {n a b : Nat} (ha : a * a ≤ n) (ha2 : n < (a + 1) * (a + 1)) (hb : b * b ≤ n) (hb2 : n < (b + 1) * (b + 1)) : a = b := by
  rcases Nat.lt_trichotomy a b with h | h | h
  · have := Nat.mul_le_mul (show a + 1 ≤ b by omega) (show a + 1 ≤ b by omega); omega
  · exact h
  · have := Nat.mul_le_mul (show b + 1 ≤ a by omega) (show b + 1 ≤ a by omega); omega

theorem rroot_start (n : Nat) : n < (0 + 2 ^ (bl n / 2 + 1)) * (0 + 2 ^ (bl n / 2 + 1)) := by
  have h1 := lt_bl n
  have h2 : 2 ^ bl n ≤ 2 ^ (bl n / 2 + 1) * 2 ^ (bl n / 2 + 1) := by
    rw [← Nat.pow_add]; exact Nat.pow_le_pow_right (by omega) (by omega)
  rw [Nat.zero_add]
  omega

theorem not_pos_ord' {x y : Nat} (h : x ≤ y) : ¬ 0 < ordN x y := by
  rcases Nat.lt_or_eq_of_le h with h | rfl
  · rw [ordN_lt h]; omega
  · rw [ordN_eq]; omega

theorem sq_le {r n : Nat} (h : r * r ≤ n) : r ≤ n := by
  rcases Nat.eq_zero_or_pos r with h1 | h1
  · omega
  · exact Nat.le_trans (Nat.le_mul_of_pos_left r h1) h

set_option maxRecDepth 100000 in
set_option maxHeartbeats 4000000 in
theorem rroot_c (va : Value) (A : List Nat) (w : World) (hA : Digs w va A) (hla : A.length ≤ 12) :
    Calls Tryd.prog 79 #[va] w fun e w' => (∃ v R, e = .returned v ∧ Res w' v R ∧ R * R ≤ val A ∧ val A < (R + 1) * (R + 1)) ∧ Below w.heap.size w w' := by
  have sA := hA.1
  have BA : Hid (val A < 4294967296 ^ 12) := Nat.lt_of_lt_of_le (val_lt sA) (Nat.pow_le_pow_right (by omega) (by omega))
  have hbl : bl (val A) ≤ 384 := by have := val_lt sA; rw [B_pow] at this; have := bl_le this; omega
  have HS : Hid (val A < (0 + 2 ^ (bl (val A) / 2 + 1)) * (0 + 2 ^ (bl (val A) / 2 + 1))) := rroot_start _
  go_enter Tryd.func79, Tryd.ntmps79
  go_wp2_with fail
  refine (rlen_c _ A _ hA).mono ?_
  rintro e w1 ⟨rfl, hb1⟩
  have hA1 := hA.below hb1 (Nat.le_refl _)
  clear hA
  generalize bl (val A) = n0 at *
  go_wp2_with fail
  go_loopw [3, 4] (fun r i wr => ∃ (m R : Nat), m ≤ n0 / 2 + 1 ∧ i = .int .i64 ((m : Int) - 1) ∧ Res wr r R ∧ Hid (R * R ≤ val A) ∧ Hid (val A < (R + 2 ^ m) * (R + 2 ^ m)) ∧ Digs wr va A ∧ Below w.heap.size w wr)
    (fun _ i _ => (intOf i + 1).toNat)
  case atStart => exact ⟨n0 / 2 + 1, 0, Nat.le_refl _, congrArg (Value.int .i64) (by omega), Res.nil _, Nat.zero_le _, HS, hA1, hb1⟩
  case round =>
    obtain ⟨m, R, hm, rfl, ⟨dr, hr, nr, er'⟩, HR, HT, hAr, hbr⟩ := hrel
    clear hA1 hb1
    have er : Hid (val dr = R) := er'
    have lr := len_of_lt nr (k := 12) (by rw [er']; exact Nat.lt_of_le_of_lt (sq_le HR.out) BA.out)
    clear er'
    rcases m with _ | i
    · go_wp2_with fail
      refine (rtrim_c _ dr _ hr).mono ?_
      rintro e w3 ⟨⟨v3, rfl, h3⟩, hb3⟩
      go_wp2
      go_ret
      exact ⟨⟨_, R, rfl, ⟨_, h3, norm_trimL _, by rw [val_trimL]; exact er.out⟩, HR.out, HT.out⟩, hbr.trans (hb3.mono hbr.size)⟩
    · rw [show (((i + 1 : Nat) : Int) - 1) = (i : Int) by omega]
      have hi2 : i ≤ 192 := by omega
      have F := ((Facts.nil wr).cons hAr).cons hr
      have B : Below w.heap.size w wr := hbr
      clear hAr hr hbr
      go_wp2_with fail
      refine (rfrom_one _).mono ?_
      rintro e w2 ⟨⟨v2, rfl, d2, hd2, n2, e2'⟩, hb⟩
      have e2 : Hid (val d2 = 1) := e2'
      have l2 := len_small 1 n2 (by rw [e2']; decide) (by omega)
      replace F := (F.below hb).cons hd2
      replace B := B.trans (hb.mono B.size)
      clear hb hd2 e2'
      go_wp2_with fail
      refine (rshl_c _ d2 i _ (F.get (by simp)) (by omega) (by omega)).mono ?_
      rintro e w3 ⟨⟨v3, rfl, d3, hd3, n3, e3'⟩, hb⟩
      have e3 : Hid (val d3 = 2 ^ i) := by show _ = _; rw [e3', e2.out, Nat.one_mul]
      have l3 := len_of_lt n3 (k := 7) (by rw [e3.out, B_pow]; exact Nat.pow_lt_pow_right (by omega) (by omega))
      replace F := (F.below hb).cons hd3
      replace B := B.trans (hb.mono B.size)
      clear hb hd3 e3' w2
      go_wp2_with fail
      refine (radd_c _ _ dr d3 _ (F.get (by simp)) (F.get (by simp)) (by omega) (by omega)).mono ?_
      rintro e w4 ⟨⟨v4, rfl, d4, hd4, n4, e4'⟩, hb⟩
      have e4 : Hid (val d4 = R + 2 ^ i) := by show _ = _; rw [e4', e3.out, er.out]
      have l4 := len_of_lt n4 (k := 13) (by
        rw [e4.out]
        have h1 := sq_le HR.out
        have h2 := BA.out
        have h4 : 2 ^ i < 4294967296 ^ 7 := by rw [B_pow]; exact Nat.pow_lt_pow_right (by omega) (by omega)
        have h3 : 2 ^ i < 4294967296 ^ 12 := Nat.lt_of_lt_of_le h4 (Nat.pow_le_pow_right (by omega) (by omega))
        have : (4294967296 : Nat) ^ 13 = 4294967296 ^ 12 * 4294967296 := rfl
        omega)
      replace F := (F.below hb).cons hd4
      replace B := B.trans (hb.mono B.size)
      clear hb hd4 e4' w3
      go_wp2_with fail
      refine (rmul_c _ _ d4 d4 _ (F.get (by simp)) (F.get (by simp)) (by omega) (by omega)).mono ?_
      rintro e w5 ⟨⟨v5, rfl, d5, hd5, n5, e5'⟩, hb⟩
      have e5 : Hid (val d5 = (R + 2 ^ i) * (R + 2 ^ i)) := by show _ = _; rw [e5', e4.out]
      replace F := (F.below hb).cons hd5
      replace B := B.trans (hb.mono B.size)
      clear hb hd5 e5' w4
      go_wp2_with fail
      refine (rcmp_c _ _ d5 A _ (F.get (by simp)) (F.get (by simp))).mono ?_
      rintro e w6 ⟨rfl, hb⟩
      rw [e5.out]
      replace F := F.below hb
      replace B := B.trans (hb.mono B.size)
      clear hb w5
      by_cases hle : (R + 2 ^ i) * (R + 2 ^ i) ≤ val A
      · have ho : ordN ((R + 2 ^ i) * (R + 2 ^ i)) (val A) ≤ 0 := by have := not_pos_ord' hle; omega
        have HLE : Hid ((R + 2 ^ i) * (R + 2 ^ i) ≤ val A) := hle
        clear hle
        generalize ordN ((R + 2 ^ i) * (R + 2 ^ i)) (val A) = O at *
        go_wp2
        go_roundw
        case rel => exact ⟨i, R + 2 ^ i, by omega, rfl, ⟨d4, F.get (by simp), n4, e4.out⟩, HLE, by show _ < _; rw [Nat.add_assoc, show 2 ^ i + 2 ^ i = 2 ^ (i + 1) by rw [Nat.pow_succ]; omega]; exact HT.out, F.get (by simp), B⟩
        case measure => simp [intOf]
      · have ho : ¬ ordN ((R + 2 ^ i) * (R + 2 ^ i)) (val A) ≤ 0 := by rw [ordN_gt (by omega)]; omega
        have HLE : Hid (val A < (R + 2 ^ i) * (R + 2 ^ i)) := Nat.lt_of_not_le hle
        clear hle
        generalize ordN ((R + 2 ^ i) * (R + 2 ^ i)) (val A) = O at *
        go_wp2
        go_roundw
        case rel => exact ⟨i, R, by omega, rfl, ⟨dr, F.get (by simp), nr, er.out⟩, HR, HLE, F.get (by simp), B⟩
        case measure => simp [intOf]
end Go.Proofs.YtdccjlaneobldaaDoor.N
